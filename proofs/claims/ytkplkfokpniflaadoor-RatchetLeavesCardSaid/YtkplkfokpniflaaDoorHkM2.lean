/- A law for a range over a function whose iterator hands over values that lie in memory: what is handed over is known in the world in which it is handed over; an activation's code in a round, out of its walk outside. Nothing of the program. Walks: the iterator of pieces. Walks: Expand. Walks: Expand and Label where nothing may be asked; head. -/
import Derived.RangeFuncNested
import Derived.RangeFuncBound
import Derived.RangeFuncCalls
import Derived.RangeFuncLeaves
import Derived.Shelf.Abstract
import Derived.Shelf.RegionOpen
import Derived.WalkKit
import Derived.OwnWalkIn
import Derived.TacticsInMore
import Derived.LoopNIn
import Derived.LoopIn
import Derived.Below
import Derived.Laws.Rows
import Derived.Laws.Tables
import Derived.Test.YtkplkfokpniflaaDoorHkM1
import Derived.Laws.OwnMore
import Derived.Lib.SlBytesConst
namespace Go.Proofs.YtkplkfokpniflaaDoor.Iter
set_option linter.all false
open Go.RowKit

/-- all blocks but those of X are as they were; what is new is not looked at -/
structure Kept (X : Nat → Prop) (W W' : World) : Prop where
  os : W'.os = W.os
  tape : W'.tape = W.tape
  output : W'.output = W.output
  size : W.heap.size ≤ W'.heap.size
  block : ∀ k, k < W.heap.size → ¬ X k → W'.heap[k]? = W.heap[k]?
theorem Kept.refl (X : Nat → Prop) (W : World) : Kept X W W := ⟨rfl, rfl, rfl, Nat.le_refl _, fun _ _ _ => rfl⟩
theorem Kept.trans {X : Nat → Prop} {A B C : World} (h : Kept X A B) (k : Kept X B C) : Kept X A C :=
  ⟨k.os.trans h.os, k.tape.trans h.tape, k.output.trans h.output, Nat.le_trans h.size k.size, fun i hi hx => (k.block i (Nat.lt_of_lt_of_le hi h.size) hx).trans (h.block i hi hx)⟩
theorem Kept.mono {X Y : Nat → Prop} {A B : World} (h : Kept X A B) (k : ∀ i, X i → Y i) : Kept Y A B :=
  ⟨h.os, h.tape, h.output, h.size, fun i hi hx => h.block i hi fun e => hx (k i e)⟩
theorem Kept.of_below {X : Nat → Prop} {A B : World} (h : Below A.heap.size A B) : Kept X A B := ⟨h.os, h.tape, h.output, h.size, fun i hi _ => h.block i hi⟩
theorem Kept.of_grown {X : Nat → Prop} {A B : World} {row : Option Nat} (h : A.grownBy B row) (hx : ∀ r, row = some r → X r) : Kept X A B :=
  ⟨h.os, h.tape, h.output, h.size, fun i hi hn => h.block i hi fun e => hn (hx i e.symm)⟩
theorem Kept.below {X : Nat → Prop} {n : Nat} {w A B : World} (h : Below n w A) (k : Kept X A B) (hX : ∀ i, X i → n ≤ i) (hn : n ≤ A.heap.size) : Below n w B :=
  ⟨k.os.trans h.os, k.tape.trans h.tape, k.output.trans h.output, Nat.le_trans h.size k.size, fun i hi => by
    exact (k.block i (by omega) fun e => by have := hX i e; omega).trans (h.block i hi)⟩
theorem Kept.put (W : World) (l : Nat) (o : Obj) : Kept (fun k => k = l) W (W.putObj l o) := Kept.of_grown (grownBy_putObj' W l o) fun r e => by cases e; rfl
theorem Kept.drew {X : Nat → Prop} (W : World) : Kept X W W.drew := ⟨rfl, rfl, rfl, Nat.le_refl _, fun _ _ _ => rfl⟩

section
variable {P : Program}

/-- the fence of a round, or none -/
structure Plain (P : Program) (F : Fence) : Prop where
  fn : ∀ f, F.fn f
  depth : F.depth = none
  calls : ∀ n f args w R, Calls P f args w R → CallsIn F n P f args w R
  rows : ∀ n row args w R, Rows P row args w R → RowsIn F n P row args w R
theorem plain_wide (P : Program) : Plain P Fence.wide := ⟨fun _ => trivial, rfl, fun _ _ _ _ _ h => callsIn_wide.2 h, fun _ _ _ _ _ h c cs _ => let ⟨v, w', r, s⟩ := h c cs; ⟨v, w', r, stepsIn_wide.2 s⟩⟩
theorem plain_round (P : Program) (l : Nat) : Plain P (Fence.wide.inRound l) := ⟨fun _ => trivial, rfl, fun _ _ _ _ _ h => CallsIn.inRound l (callsIn_wide.2 h), fun n row args w R h => (plain_wide P).rows n row args w R h⟩

/-- an operation that is no defer: what holds of it holds in a round -/
theorem op_in {F : Fence} (hF : Plain P F) {n : Nat} {o : Oper} {a : Act} {w : World} {K : Act → World → Prop} {Q : Exit → Act → World → Prop} (hd : ∀ c, o.op ≠ .defer c)
    (h : o.wp P a w K Q) : o.wpIn F n P a w K Q := by
  refine ⟨fun f _ => hF.fn f, ?_⟩
  rw [Oper.semAt_eq _ _ _ hd]
  unfold Oper.wp at h
  revert h
  generalize (execOp a.eval o).run P w = r
  intro h
  have hz : ∀ {X : Prop}, (F.depth.isSome = true → X) := fun e => by rw [hF.depth] at e; cases e
  cases r with
  | ok x w' =>
    cases x
    case value => exact h
    case skip => exact h
    case defer => exact h
    case enter => exact ⟨hz, hF.calls _ _ _ _ _ h⟩
    case row => exact ⟨hz, hF.rows _ _ _ _ _ h⟩
    all_goals exact False.elim h
  | halt x w' =>
    cases x
    case panic => exact h
    all_goals exact False.elim h
theorem wpOp_in {F : Fence} (hF : Plain P F) {n : Nat} {ops : Array Oper} {Q : Exit → Act → World → Prop} (hQ : ¬ LetsOut Q) (hd : ∀ (i : Nat) (o : Oper), ops[i]? = some o → ∀ c, o.op ≠ Op.defer c) {K K' : Act → World → Prop} (hK : ∀ a w, K a w → K' a w) {i : Nat} {a : Act} {w : World}
    (h : wpOp P ops Q i K a w) : wpOpIn F n P ops Q i K' a w := by
  unfold wpOp at h
  unfold wpOpIn
  cases hi : ops[i]? with
  | none => rw [hi] at h; exact hK _ _ h
  | some o =>
    rw [hi] at h
    dsimp only at h ⊢
    split at h
    · rename_i hw
      rw [if_pos hw]
      rcases h with h | h
      · exact Oper.wpIn_mono hK (op_in hF (hd i o hi) h)
      · exact absurd h.2 hQ
    · rename_i hw
      rw [if_neg hw]
      exact ⟨fun f _ => hF.fn f, hK _ _ h⟩
theorem wpAny_in {F : Fence} (hF : Plain P F) {n : Nat} {md : Region.Mode} {ops : Array Oper} {Q : Exit → Act → World → Prop} (hQ : ¬ LetsOut Q) (hd : ∀ (i : Nat) (o : Oper), ops[i]? = some o → ∀ c, o.op ≠ Op.defer c) :
    ∀ (fuel : Nat) (listed : Array Bool) (a : Act) (w : World), wpAny P md ops Q fuel listed a w → wpAnyIn F n P md ops Q fuel listed a w
  | 0, _, _, _, h => h
  | fuel + 1, _, _, _, h => ⟨h.1, fun i hi => wpOp_in hF hQ hd (fun a w => wpAny_in hF hQ hd fuel _ a w) (h.2 i hi)⟩
/-- a region that draws, in a round -/
theorem region_any_in {F : Fence} (hF : Plain P F) {n id : Nat} {ops : Array Oper} {Q : Exit → Act → World → Prop} {a : Act} {w : World} (hQ : ¬ LetsOut Q) (hd : ∀ (i : Nat) (o : Oper), ops[i]? = some o → ∀ c, o.op ≠ Op.defer c) (hm : P.follows .mixedOrders = true)
    (h : wpAny P .any ops Q ops.size (Array.replicate ops.size false) a w.drew) : (Code.region id ops true).wpIn F n P Q a w :=
  wpIn_region_any hm (wpAny_in hF hQ hd _ _ _ _ h)
theorem wpList_in {F : Fence} (hF : Plain P F) {n : Nat} {ops : Array Oper} {Q : Exit → Act → World → Prop} (hQ : ¬ LetsOut Q) : ∀ (l : List Oper) (a : Act) (w : World), (∀ o ∈ l, ∀ c, o.op ≠ .defer c) → wpList P ops Q l a w → wpListIn F n P ops Q l a w
  | [], _, _, _, h => h
  | o :: l, a, w, hd, h => by
    have ih := wpList_in hF hQ (n := n) (ops := ops) l
    unfold wpList at h
    unfold wpListIn
    split at h
    · rename_i hw
      rw [if_pos hw]
      rcases h with h | h
      · exact Oper.wpIn_mono (fun a w k => ih a w (fun o' ho => hd o' (List.mem_cons_of_mem _ ho)) k) (op_in hF (hd o (List.mem_cons_self ..)) h)
      · exact absurd h.2 hQ
    · rename_i hw
      rw [if_neg hw]
      exact ⟨fun f _ => hF.fn f, ih _ _ (fun o' ho => hd o' (List.mem_cons_of_mem _ ho)) h⟩

/-- neither a panic nor a way out of memory -/
def calm (Q : Exit → Act → World → Prop) : Exit → Act → World → Prop
  | .panic _, _, _ => False
  | .outgrown, _, _ => False
  | .normal, a, w => Q .normal a w
  | .ret, a, w => Q .ret a w
  | .exit id, a, w => Q (.exit id) a w
  | .goto t, a, w => Q (.goto t) a w
theorem calm_of {Q : Exit → Act → World → Prop} : ∀ e a w, calm Q e a w → Q e a w := fun e a w h => by cases e <;> first | exact h | exact (h : False).elim
def noDefer (ops : Array Oper) : Bool := ops.all fun o => match o.op with | .defer _ => false | _ => true
theorem noDefer_spec {ops : Array Oper} (h : noDefer ops = true) : ∀ (i : Nat) (o : Oper), ops[i]? = some o → ∀ c, o.op ≠ Op.defer c := by
  intro i o hi c e
  unfold noDefer at h
  rw [Array.all_eq_true_iff_forall_mem] at h
  have := h o (Array.mem_of_getElem? hi)
  rw [e] at this
  cases this
/-- a region that draws, in a round, shown not to panic -/
theorem region_drawn_in {F : Fence} (hF : Plain P F) {n id : Nat} {ops : Array Oper} {Q : Exit → Act → World → Prop} {a : Act} {w : World} (hd : noDefer ops = true) (hm : P.follows .mixedOrders = true)
    (h : wpAny P .any ops (calm Q) ops.size (Array.replicate ops.size false) a w.drew) : (Code.region id ops true).wpIn F n P Q a w :=
  wpIn_mono (region_any_in hF (Q := calm Q) (fun ⟨_, _, h⟩ => h) (noDefer_spec hd) hm h) calm_of

/-- a law for an operation outside rounds, at the head of a list inside -/
theorem wpListIn_of_wp {F : Fence} (hF : Plain P F) {n : Nat} {ops : Array Oper} {rest : List Oper} {o : Oper} {a : Act} {w : World} {Q : Exit → Act → World → Prop} (hgd : o.guard = none) (hd : ∀ c, o.op ≠ Op.defer c)
    (h : ∀ K : Act → World → Prop, (∀ a w, wpListIn F n P ops Q rest a w → K a w) → o.wp P a w K Q) : wpListIn F n P ops Q (o :: rest) a w :=
  wpListIn_plain hgd fun K hK => op_in hF hd (h K hK)
theorem wpListIn_load_whole {F : Fence} (hF : Plain P F) {n : Nat} {ops : Array Oper} {rest : List Oper} {o : Oper} {a : Act} {w : World} {Q : Exit → Act → World → Prop} (hgd : o.guard = none) (ty : TypeId) (x : Operand) (ho : o.op = .load ty x)
    (g : Nat) (hx : a.eval x = .pointer (some ⟨g, 0, none⟩)) (t : TypeId) (cs : Array Value) (fr : Nat × Nat) (d : TypeDesc) (hg : w.heap[g]? = some (.cells cs t fr))
    (hu : P.underlying ty = some d) (hd : (match d with | .struct _ | .array _ _ => true | _ => false) = true) (hi : (P.info? ty).map (·.size) = some cs.size)
    (h : wpListIn F n P ops Q rest (a.put o.dst (.agg cs)) w) : wpListIn F n P ops Q (o :: rest) a w :=
  wpListIn_of_wp hF hgd (fun c e => by rw [ho] at e; cases e) fun _ hK => wp_load_row ty x ho g hx t cs fr d hg hu hd hi (hK _ _ h)
theorem wpListIn_store_whole {F : Fence} (hF : Plain P F) {n : Nat} {ops : Array Oper} {rest : List Oper} {o : Oper} {a : Act} {w : World} {Q : Exit → Act → World → Prop} (hgd : o.guard = none) (ty : TypeId) (x y : Operand) (ho : o.op = .store ty x y)
    (g : Nat) (cells : Array Value) (hx : a.eval x = .pointer (some ⟨g, 0, none⟩)) (hy : a.eval y = .agg cells)
    (t : TypeId) (old : Array Value) (hg : w.heap[g]? = some (.cells old t (0, 0))) (hi : (P.info? ty).map (·.size) = some cells.size)
    (hold : old.size = cells.size) (h1 : cells.all (·.oneCell') = true)
    (h : wpListIn F n P ops Q rest (a.put o.dst undef) (w.setRow g cells)) : wpListIn F n P ops Q (o :: rest) a w :=
  wpListIn_of_wp hF hgd (fun c e => by rw [ho] at e; cases e) fun _ hK => wp_store_row ty x y ho g cells hx hy t old hg hi hold h1 (hK _ _ h)

/-- an iterator's contract: what it hands over is known (Kn) where it hands it over; a round leaves all blocks but those of X as they were -/
def Hands {α : Type} (P : Program) (gf : FuncId) (lb : Array Value) (encs : α → Array Value) (Kn : List α → α → World → Prop) (X : Nat → Prop) (S Sp : List α → Prop) (w : World) : Prop :=
  ∀ (l : Nat) (J Jx : List α → World → Prop) (W : World), Below w.heap.size w W → W.heap.size = w.heap.size + 2 →
    (∀ pre A B, J pre A → Below A.heap.size A B → J pre B) →
    (∀ pre x W1, J pre W1 → Kn pre x W1 → YieldAt Fence.wide 0 P l (encs x) W1 fun e W' =>
      (e = .returned (.bool true) ∧ J (pre ++ [x]) W' ∧ Kept X W1 W') ∨ (e = .returned (.bool false) ∧ Jx (pre ++ [x]) W')) →
    J [] W →
    CallsIn Fence.wide 0 P gf (#[.func (.yield l) #[] #[]] ++ lb) W fun e W' => (∃ v, e = .returned v) ∧ ((∃ xs, S xs ∧ J xs W') ∨ (∃ pre, Sp pre ∧ Jx pre W'))

/-- how the body of a round may be left -/
def handsPost {α : Type} (X : Nat → Prop) (I : List α → World → Prop) (Ix : Code → List α → World → Prop) (xs : List α) (W : World) : Exit → Act → World → Prop
  | .normal, _, W' => Kept X W W' ∧ I xs W'
  | .ret, _, W' => Kept X W W' ∧ Ix .ret xs W'
  | .exit id, _, W' => Kept X W W' ∧ Ix (.exit id) xs W'
  | .goto t, _, W' => Kept X W W' ∧ Ix (.goto t) xs W'
  | .panic _, _, _ => False
  | .outgrown, _, _ => False
theorem handsPost_calm {α : Type} {X : Nat → Prop} {I : List α → World → Prop} {Ix : Code → List α → World → Prop} {xs : List α} {W : World} : ¬ LetsOut (handsPost X I Ix xs W) := fun ⟨_, _, h⟩ => h

/-- the statement 'for x := range f', f handing over what lies in memory -/
theorem wp_range_hands {α : Type} {g : Operand} {ps : Array Tmp} {assign body : Code} {Q : Exit → Act → World → Prop} {a : Act} {w : World}
    {gf : Nat} {lb : Array Value} (hg : a.eval g = .func (.func gf) #[] lb) (eg : ∀ args w, (callFunc gf args).run P w = .ok (.enter gf args) w)
    {encs : α → Array Value} {Kn : List α → α → World → Prop} {S Sp : List α → Prop} (X : Nat → Prop) (hX : ∀ k, X k → k < w.heap.size)
    (hseq : Hands P gf lb encs Kn (fun k => X k ∨ k = w.heap.size ∨ k = w.heap.size + 1) S Sp w) (hps : ∀ x, (encs x).size = ps.size)
    (hKn : ∀ pre x A B, Kn pre x A → Kept (fun k => k = w.heap.size ∨ k = w.heap.size + 1) A B → Kn pre x B)
    (I : List α → World → Prop) (Ix : Code → List α → World → Prop)
    (hI : ∀ pre A B, I pre A → Kept (fun k => k = w.heap.size ∨ k = w.heap.size + 1) A B → I pre B)
    (hIx : ∀ c pre A B, Ix c pre A → Kept (fun k => k = w.heap.size ∨ k = w.heap.size + 1) A B → Ix c pre B) (h0 : I [] w) (a₁ : α → Act)
    (hassign : ∀ (l : Nat) (x : α) (W : World) (K : Act → World → Prop), K (a₁ x) W →
      assign.wpIn (Fence.wide.inRound l) 0 P (Exit.then K (fun _ _ _ => False)) { tmps := (ps.zip (encs x)).foldl (fun t (p, v) => t.setIfInBounds p v) a.tmps, defers := [] } W)
    (hbody : ∀ (l : Nat) (pre : List α) (x : α) (W : World), w.heap.size + 2 ≤ W.heap.size → I pre W → Kn pre x W → body.wpIn (Fence.wide.inRound l) 0 P (handsPost X I Ix (pre ++ [x]) W) (a₁ x) W)
    (hdone : ∀ (xs : List α) (W : World), S xs → I xs W → W.heap[w.heap.size]? = some (.deferred (some [])) → Q .normal { a with defers := { target := .collected w.heap.size, args := #[] } :: a.defers } W)
    (hstop : ∀ (c : Code) (pre : List α) (W : World), Sp pre → Ix c pre W → W.heap[w.heap.size]? = some (.deferred (some [])) → c.wpIn Fence.wide 0 P Q { a with defers := { target := .collected w.heap.size, args := #[] } :: a.defers } W) :
    (Code.rangeFunc g ps assign body).wpIn Fence.wide 0 P Q a w := by
  refine wpIn_rangeFunc fun fn hfn => ?_
  have hro : (Fence.wide).round = none := rfl
  rw [hro]
  obtain ⟨rec, hrec⟩ : ∃ rec : LoopState → Option Code → Loop, rec = fun st pe => { state := st, pending := pe, fn, tmps := a.tmps, params := ps, assign, body, defers := w.heap.size } := ⟨_, rfl⟩
  obtain ⟨N, hN⟩ : ∃ N, N = w.heap.size := ⟨_, rfl⟩
  rw [← hN] at hX hseq hKn hI hIx hbody hdone hstop hrec
  obtain ⟨W1, hW1⟩ : ∃ W1, (w.alloc (.deferred (some []))).alloc (.loop (rec .ready none)) = W1 := ⟨_, rfl⟩
  have hL1 : W1.heap[N + 1]? = some (.loop (rec .ready none)) := by
    rw [← hW1, hN]; have := World.alloc_heap_new (w.alloc (.deferred (some []))) (.loop (rec .ready none)); rwa [World.size_alloc] at this
  have hD1 : W1.heap[N]? = some (.deferred (some [])) := by
    rw [← hW1, hN]; exact (Below.heap_alloc _ _ _ (by simp)).trans (World.alloc_heap_new w _)
  have hb1 : Below w.heap.size w W1 := by rw [← hW1]; exact ((Below.refl _ w).alloc (Nat.le_refl _) _).alloc (by simp) _
  have hs1 : W1.heap.size = w.heap.size + 2 := by rw [← hW1]; simp
  -- the two blocks of the statement's own may turn
  have putI : ∀ {pre : List α} {A : World} {o : Obj}, I pre A → I pre (A.putObj (N + 1) o) := fun h => hI _ _ _ h ((Kept.put _ _ _).mono fun k e => .inr e)
  have putX : ∀ {c : Code} {pre : List α} {A : World} {o : Obj}, Ix c pre A → Ix c pre (A.putObj (N + 1) o) := fun h => hIx _ _ _ _ h ((Kept.put _ _ _).mono fun k e => .inr e)
  refine ⟨N + 1, [{ target := .collected N, args := #[] }], W1, { target := .fn (.func gf) lb, args := #[.func (.yield (N + 1)) #[] #[]] }, W1, gf, #[.func (.yield (N + 1)) #[] #[]] ++ lb, W1, ?_, ?_, fun _ _ => trivial, ?_, fun h => (by cases h), ?_⟩
  · rw [← hW1, hrec, hN]; exact run_enterLoop_outer _ _ _ _ _
  · simp only [resolve, hg]
    simp [go_sem]
  · simp [invoke, go_sem, eg]
  · refine (hseq (N + 1)
      (fun pre W => I pre W ∧ W.heap[N + 1]? = some (.loop (rec .ready none)) ∧ W.heap[N]? = some (.deferred (some [])))
      (fun pre W => ∃ c, Ix c pre W ∧ W.heap[N + 1]? = some (.loop (rec .done (some c))) ∧ W.heap[N]? = some (.deferred (some [])))
      W1 hb1 hs1 (fun pre A B h hb => ⟨hI _ _ _ h.1 (Kept.of_below hb), (hb.block _ (Array.getElem?_eq_some_iff.1 h.2.1).1).trans h.2.1, (hb.block _ (Array.getElem?_eq_some_iff.1 h.2.2).1).trans h.2.2⟩)
      ?_ ⟨hI _ _ _ h0 (Kept.of_below hb1), hL1, hD1⟩).mono ?_
    · rintro pre x W ⟨hi, hl, hk⟩ hkn
      have hlt : N + 1 < W.heap.size := (Array.getElem?_eq_some_iff.1 hl).1
      have hy := run_yield (P := P) (args := encs x) hl (by rw [hrec]; exact hps x)
      rw [hrec] at hy
      refine ⟨fn, _, assign, body, hy, roundIn_of_wpIn hfn (hassign _ x W _ ⟨_, run_beginRound hl (by rw [hrec]), ?_⟩)⟩
      obtain ⟨Wb, hWb⟩ : ∃ Wb, W.putObj (N + 1) (.loop { rec .ready none with state := .busy }) = Wb := ⟨_, rfl⟩
      have hl2 : Wb.heap[N + 1]? = some (.loop { rec .ready none with state := .busy }) := by rw [← hWb]; exact World.putObj_heap_same hlt
      have hk2 : Wb.heap[N]? = some (.deferred (some [])) := by rw [← hWb]; exact (World.putObj_heap_other (by omega)).trans hk
      have hK2 : Kept (fun k => k = N ∨ k = N + 1) W Wb := by rw [← hWb]; exact (Kept.put _ _ _).mono fun k e => .inr e
      rw [hWb]
      refine wpIn_mono (hbody _ pre x Wb (by have := hK2.size; omega) (hI _ _ _ hi hK2) (hKn _ _ _ _ hkn hK2)) ?_
      have fin : ∀ (jump : Option Code) (W3 : World), Kept X Wb W3 →
          (Instr.endRound (N + 1) jump).run P W3 = .ok (.bool jump.isNone) (W3.putObj (N + 1) (.loop (rec (if jump.isNone then .ready else .done) jump))) ∧
          (W3.putObj (N + 1) (.loop (rec (if jump.isNone then .ready else .done) jump))).heap[N + 1]? = some (.loop (rec (if jump.isNone then .ready else .done) jump)) ∧
          (W3.putObj (N + 1) (.loop (rec (if jump.isNone then .ready else .done) jump))).heap[N]? = some (.deferred (some [])) ∧
          Kept (fun k => X k ∨ k = N ∨ k = N + 1) W (W3.putObj (N + 1) (.loop (rec (if jump.isNone then .ready else .done) jump))) := fun jump W3 hk3 => by
        have hl3 : W3.heap[N + 1]? = some (.loop { rec .ready none with state := .busy }) := (hk3.block _ (Array.getElem?_eq_some_iff.1 hl2).1 fun e => by have := hX _ e; omega).trans hl2
        have hd3 : W3.heap[N]? = some (.deferred (some [])) := (hk3.block _ (Array.getElem?_eq_some_iff.1 hk2).1 fun e => by have := hX _ e; omega).trans hk2
        have := run_endRound (P := P) jump hl3
        rw [hrec] at this ⊢
        exact ⟨this, World.putObj_heap_same (Array.getElem?_eq_some_iff.1 hl3).1, (World.putObj_heap_other (by omega)).trans hd3,
          ((hK2.mono fun k e => .inr e).trans (hk3.mono fun k e => .inl e)).trans ((Kept.put _ _ _).mono fun k e => .inr (.inr e))⟩
      rintro e a3 W3 hp
      cases e with
      | normal =>
        obtain ⟨hk3, hi3⟩ := hp
        obtain ⟨hr, hl4, hk4, hK4⟩ := fin none W3 hk3
        exact ⟨_, _, hr, .inl ⟨rfl, ⟨putI hi3, hl4, hk4⟩, hK4⟩⟩
      | ret =>
        obtain ⟨hk3, hi3⟩ := hp
        obtain ⟨hr, hl4, hk4, _⟩ := fin (some .ret) W3 hk3
        exact ⟨_, _, hr, .inr ⟨rfl, .ret, putX hi3, hl4, hk4⟩⟩
      | exit id =>
        obtain ⟨hk3, hi3⟩ := hp
        obtain ⟨hr, hl4, hk4, _⟩ := fin (some (.exit id)) W3 hk3
        exact ⟨_, _, hr, .inr ⟨rfl, .exit id, putX hi3, hl4, hk4⟩⟩
      | goto t =>
        obtain ⟨hk3, hi3⟩ := hp
        obtain ⟨hr, hl4, hk4, _⟩ := fin (some (.goto t)) W3 hk3
        exact ⟨_, _, hr, .inr ⟨rfl, .goto t, putX hi3, hl4, hk4⟩⟩
      | panic ch => exact hp.elim
      | outgrown => exact hp.elim
    · rintro e W2 ⟨⟨v, rfl⟩, (⟨xs, hS, hi, hl, hk⟩ | ⟨pre, hSp, c, hi, hl, hk⟩)⟩
      · exact ⟨none, _, by have := run_endLoop (P := P) hl (by rw [hrec]; simp); rw [hrec] at this; exact this, hdone xs _ hS (putI hi) ((World.putObj_heap_other (by omega)).trans hk)⟩
      · exact ⟨some c, _, by have := run_endLoop (P := P) hl (by rw [hrec]; simp); rw [hrec] at this; exact this, hstop c pre _ hSp (putX hi) ((World.putObj_heap_other (by omega)).trans hk)⟩

end
end Go.Proofs.YtkplkfokpniflaaDoor.Iter

namespace Go.Proofs.YtkplkfokpniflaaDoor.Sha
set_option linter.all false
open Go.RowKit Iter
attribute [local go_sem] Oper.semAt_some

/-- a slice of bytes in a block of its own, at or beyond B; nil let in -/
def Fresh (B : Nat) (A : Option Addr) (bs : List Nat) (w : World) : Prop :=
  (∀ j, gt bs j < 256) ∧ (0 < bs.length → ∃ g : Nat, A = some ⟨g, 0, none⟩ ∧ B ≤ g ∧ g < w.heap.size ∧ ∀ j, j < bs.length → w.cell? ⟨g, j, none⟩ = some (.int .u8 (gt bs j : Nat)))
theorem Fresh.kept {B : Nat} {A : Option Addr} {bs : List Nat} {w w' : World} {X : Nat → Prop} (h : Fresh B A bs w) (hk : Kept X w w') (hX : ∀ k, X k → k < B) : Fresh B A bs w' := by
  refine ⟨h.1, fun hn => ?_⟩
  obtain ⟨g, h1, h2, h3, h4⟩ := h.2 hn
  refine ⟨g, h1, h2, Nat.lt_of_lt_of_le h3 hk.size, fun j hj => ?_⟩
  rw [World.cell?_of_block (w := w) (w' := w') (hk.block g h3 fun e => by have := hX g e; omega)]
  exact h4 j hj
theorem Fresh.rd {B : Nat} {A : Option Addr} {bs : List Nat} {w : World} (h : Fresh B A bs w) : Rd w w.heap.size A bs := by
  refine ⟨h.1, fun hn => ?_⟩
  obtain ⟨g, h1, h2, h3, h4⟩ := h.2 hn
  refine ⟨_, h1, h3, fun j hj => ?_⟩
  have ha : (⟨g, 0, none⟩ : Addr).add j = ⟨g, j, none⟩ := by unfold Addr.add; split <;> simp_all
  rw [ha]; exact h4 j hj
theorem fresh_of_own {w : World} {base B g n cap : Nat} {xs : List Nat} (hown : w.ownsRow base 5 1 (.slice (some ⟨g, 0, none⟩) n cap) n (bcells xs)) (hx : ∀ j, gt xs j < 256) (hB : B ≤ base) : Fresh B (some ⟨g, 0, none⟩) xs w := by
  have hl : xs.length = n := by have := hown.1; rw [bcells_len] at this; omega
  have hlt := hown.lt g rfl
  exact ⟨hx, fun _ => ⟨g, rfl, by omega, hlt.2, fun j hj => by rw [hown.cellAt j (by omega), bcells_at xs j hj]⟩⟩
theorem Fresh.nil (B : Nat) (A : Option Addr) (w : World) : Fresh B A [] w := ⟨fun _ => by simp [gt], fun h => absurd h (by simp)⟩

theorem parts_list (w : World) (ps : List Pt) (h : ∀ p ∈ ps, p.Lies w) : Parts (w.alloc (.cells (ps.map fun p => Value.slice p.A p.n p.c).toArray 22)) w.heap.size ps := by
  intro j p hp
  refine ⟨?_, (h p (List.mem_of_getElem? hp)).below ((Below.refl _ _).alloc (Nat.le_refl _) _)⟩
  rw [cell_of_row _ _ j _ 22 (0, 0) (heap_alloc_last w _)]
  simp [hp]
theorem byte_rd (w : World) (z : Int) (x : Nat) (hz : z = (x : Int)) (hx : x < 256) {B : Nat} (hB : w.heap.size < B) : Rd (w.alloc (.cells #[.int .u8 z] 5)) B (some ⟨w.heap.size, 0, none⟩) [x] := by
  subst hz
  refine ⟨gt_lt_of_mem (by intro v hv; simp only [List.mem_cons, List.not_mem_nil, or_false] at hv; rw [hv]; exact hx), fun _ => ⟨_, rfl, hB, fun j hj => ?_⟩⟩
  have hj0 : j = 0 := by simp at hj; exact hj
  subst hj0
  show (w.alloc _).cell? ⟨w.heap.size, 0, none⟩ = _
  rw [cell_of_row _ _ 0 _ 5 (0, 0) (heap_alloc_last w _), gt_cons_zero]; rfl
theorem Rd.kept {w w' : World} {B : Nat} {A : Option Addr} {bs : List Nat} {X : Nat → Prop} (h : Rd w B A bs) (hk : Kept X w w') (hX : ∀ k, X k → B ≤ k) (hB : B ≤ w.heap.size) : Rd w' B A bs :=
  h.keep fun p hp => World.cell?_of_block (hk.block p.block (by omega) fun e => by have := hX _ e; omega)
theorem Tables.kept {w w' : World} {X : Nat → Prop} (h : Tables w) (hk : Kept X w w') (hX : ∀ k, X k → 3 ≤ k) : Tables w' :=
  h.keep fun g hlt => hk.block g (by have := h.lt; omega) fun e => by have := hX _ e; omega

/-- what a piece is, where it is handed over -/
def pieceKn (k info : List Nat) (B : Nat) (pre : List (Nat × Nat)) (x : Nat × Nat) (w : World) : Prop :=
  pre.length < 255 ∧ 32 ≤ x.2 ∧ x.2 ≤ 9223372036854775807 ∧ Fresh B (some ⟨x.1, 0, none⟩) (piece k info (pre.length + 1)) w
def pieceEncs (x : Nat × Nat) : Array Value := #[.slice (some ⟨x.1, 0, none⟩) 32 x.2]

set_option maxHeartbeats 1000000 in
set_option maxRecDepth 100000 in
theorem pieces_hands (n0 bk bi : Nat) (A A2 : Option Addr) (key info : List Nat) (n c n2 c2 : Nat) (X : Nat → Prop) (w : World) (hT : Tables w) (h2 : 3 ≤ n0) (hn0 : n0 ≤ w.heap.size)
    (hX : ∀ k, X k → n0 ≤ k ∧ k ≠ bk ∧ k ≠ bi ∧ k < w.heap.size + 2) (hck : w.cell? ⟨bk, 0, none⟩ = some (.slice A n c)) (hci : w.cell? ⟨bi, 0, none⟩ = some (.slice A2 n2 c2))
    (hR : Rd w n0 A key) (hn : key.length = n) (hnc : n ≤ c) (hc : c ≤ 9223372036854775807) (hm : n ≤ 100000) (hR2 : Rd w n0 A2 info) (hn2 : info.length = n2) (hnc2 : n2 ≤ c2) (hc2 : c2 ≤ 9223372036854775807) (hm2 : n2 ≤ 100000) :
    Hands Tryd.prog 63 #[.pointer (some ⟨bk, 0, none⟩), .pointer (some ⟨bi, 0, none⟩)] pieceEncs (pieceKn (blockK key) info (w.heap.size + 2)) X (fun xs => xs.length = 255) (fun _ => True) w := by
  intro l J Jx W hW hsz hJ hY h0
  have HT := Lib.hid (hT.below hW (by omega)); have HR := Lib.hid ((hR.below (hW.mono hn0)).more (by have := hW.size; omega : n0 ≤ W.heap.size)); have HR2 := Lib.hid (hR2.below (hW.mono hn0))
  have HN := Lib.hid (fun _ : Unit => hn); have HN2 := Lib.hid (fun _ : Unit => hn2); have HJ := Lib.hid hJ; have HY := Lib.hid hY; have H0 := Lib.hid h0; have HX := Lib.hid hX
  have c0 := (hW.cell (p := ⟨bk, 0, none⟩) (block_lt_of_cell hck)).trans hck
  have HCI := Lib.hid ((hW.cell (p := ⟨bi, 0, none⟩) (block_lt_of_cell hci)).trans hci)
  have hbi := block_lt_of_cell HCI.out
  have hz := run_zero_block
  clear hT hR hR2 hn hn2 hJ hY h0 hX hck hci hW
  generalize w.heap.size = N0 at *
  refine callsIn_of_wp Tryd.func63 rfl trivial ?_ rfl
  simp only [Tryd.ntmps63, List.size_toArray, List.length_cons, List.length_nil, Nat.reduceAdd, Nat.reduceSub, Array.replicate_succ, Array.replicate_zero, List.push_toArray, List.append_toArray, List.nil_append, List.cons_append]
  have HK := Lib.hid (ok_blockK HR.out.1)
  have HSZ := Lib.hid (show zb.size = (bcells (blockK key)).toArray.size by rw [zb_size, List.size_toArray, bcells_len]; exact HK.out.1.symm)
  have HI := Lib.hid (block_size (blockK key) HK.out.1)
  have HONE := Lib.hid (bcells_one_all (blockK key))
  gi_wp2_with fail
  refine ⟨trivial, rfl, ?_⟩
  refine (callsIn_wide.2 (blockOf_any A key n c _ HT.out (HR.out.more (by omega)) (HN.out ()) hnc hc (by omega))).mono ?_
  rintro e' w1 ⟨rfl, hB1⟩
  have HB1 := Lib.hid hB1; clear hB1
  generalize blockK key = K at *
  have HG1 := Lib.hid (heap_alloc_last w1 (.cells zb 88))
  have HB2 := Lib.hid (HB1.out.alloc HB1.out.size (.cells zb 88))
  have hq : N0 + 2 ≤ w1.heap.size := by have := HB1.out.size; omega
  gi_wp2_with (refine wpListIn_store_whole (plain_wide _) rfl 88 (.tmp 4) (.tmp 8) rfl w1.heap.size (bcells K).toArray rfl rfl 88 zb HG1.out HI.out HSZ.out HONE.out ?_)
  rw [World.setRow_alloc_new]
  have HQ2 := Lib.hid (heap_alloc_last w1 (.cells (bcells K).toArray 88))
  have HB3 := Lib.hid (HB1.out.alloc HB1.out.size (.cells (bcells K).toArray 88))
  have HK3 := Lib.hid (Kept.of_below (X := X) HB3.out)
  have HJ3 := Lib.hid (HJ.out _ _ _ H0.out HB3.out)
  generalize w1.alloc (.cells (bcells K).toArray 88) = W3 at *
  generalize w1.heap.size = q at *
  clear HG1 HB1 HB2 HB3 H0 HSZ HONE
  gi_loopw [5, 6] (fun u i wr => ∃ (k m c' : Nat) (A' : Option Addr) (pre : List (Nat × Nat)), k ≤ 255 ∧ i = .int .i64 ((k : Int) + 1) ∧ u = .slice A' m c' ∧ m ≤ 32 ∧ m ≤ c' ∧ c' ≤ 9223372036854775807 ∧ pre.length = k ∧ Hid (Unit → (piece K info k).length = m) ∧ Hid (Fresh (N0 + 2) A' (piece K info k) wr) ∧ Hid (J pre wr) ∧ Hid (Kept X W wr) ∧ Hid (wr.heap[q]? = some (.cells (bcells K).toArray 88 (0, 0)))) (fun _ i _ => 256 - (intOf i).toNat)
  case atStart => exact ⟨0, 0, 0, none, [], by omega, rfl, rfl, by omega, by omega, by omega, rfl, Lib.hid fun _ => rfl, Lib.hid (Fresh.nil _ _ _), HJ3, HK3, HQ2⟩
  case round =>
    obtain ⟨k, m, c', A', pre, hk, rfl, rfl, hm32, hmc, hcm, hpl, HPL, HF, HJ4, HK4, HQ4⟩ := hrel
    by_cases hk255 : k < 255
    · have yk : (k : Int) + 1 ≤ 255 := by omega
      have c1 := (World.cell?_of_block (w := W) (w' := wr) (a := ⟨bi, 0, none⟩) (HK4.out.block bi hbi fun e => (HX.out _ e).2.2.1 rfl)).trans HCI.out
      have xk : IntKind.u8.wrap ((k : Int) + 1) = ((k + 1 : Nat) : Int) := by rw [IntKind.wrap_u8]; omega
      gi_wp2_with (refine wpListIn_load_whole (plain_wide _) rfl 88 (.tmp 4) rfl q rfl 88 (bcells K).toArray (0, 0) _ HQ4.out Tryd.underlying88 rfl HI.out ?_)
      refine ⟨trivial, rfl, ?_⟩
      have hNr : N0 + 2 ≤ wr.heap.size := by have := HK4.out.size; omega
      have hT4 : Tables wr := HT.out.kept HK4.out fun k e => by have := (HX.out k e).1; omega
      have HBa := Lib.hid ((Below.refl wr.heap.size wr).alloc (Nat.le_refl _) (.cells #[.int .u8 ((k : Int) + 1)] 5))
      have L1 : Pt.Lies (wr.alloc (.cells #[.int .u8 ((k : Int) + 1)] 5)) ⟨A', m, c', piece K info k⟩ := Pt.Lies.below ⟨HF.out.rd, HPL.out (), hmc, hcm⟩ HBa.out
      have L2 : Pt.Lies (wr.alloc (.cells #[.int .u8 ((k : Int) + 1)] 5)) ⟨A2, n2, c2, info⟩ := Pt.Lies.below (w := wr) ⟨(HR2.out.kept HK4.out (fun k e => (HX.out k e).1) (by omega)).more (by omega), HN2.out (), hnc2, hc2⟩ HBa.out
      have L3 : Pt.Lies (wr.alloc (.cells #[.int .u8 ((k : Int) + 1)] 5)) ⟨some ⟨wr.heap.size, 0, none⟩, 1, 1, [k + 1]⟩ := ⟨byte_rd wr _ (k + 1) (by omega) (by omega) (by simp), rfl, Nat.le_refl _, by show 1 ≤ _; omega⟩
      have hP := parts_list (wr.alloc (.cells #[.int .u8 ((k : Int) + 1)] 5)) [⟨A', m, c', piece K info k⟩, ⟨A2, n2, c2, info⟩, ⟨some ⟨wr.heap.size, 0, none⟩, 1, 1, [k + 1]⟩] (by
        intro p hp
        simp only [List.mem_cons, List.not_mem_nil, or_false] at hp
        rcases hp with rfl | rfl | rfl
        · exact L1
        · exact L2
        · exact L3)
      have hsz1 : (wr.alloc (.cells #[.int .u8 ((k : Int) + 1)] 5)).heap.size = wr.heap.size + 1 := by simp
      rw [hsz1] at hP
      have HP := Lib.hid hP
      have HBb := Lib.hid (HBa.out.alloc HBa.out.size (.cells #[.slice A' m c', .slice A2 n2 c2, .slice (some ⟨wr.heap.size, 0, none⟩) 1 1] 22))
      have HTb := Lib.hid (hT4.below HBb.out (by omega))
      clear L1 L2 L3 hP hsz1 HBa hT4
      refine (callsIn_wide.2 (tag_any K [⟨A', m, c', piece K info k⟩, ⟨A2, n2, c2, info⟩, ⟨some ⟨wr.heap.size, 0, none⟩, 1, 1, [k + 1]⟩] (wr.heap.size + 1) 3 3 _ HTb.out HK.out HP.out rfl (by omega) (by show m + (n2 + (1 + 0)) ≤ _; omega))).mono ?_
      rintro e' W5 ⟨g5, c5, rfl, hown5, hB5⟩
      have hcap5 := own_cap hown5
      unfold maxLen at hcap5
      have HP5 : Hid (Unit → tag K (joined [⟨A', m, c', piece K info k⟩, ⟨A2, n2, c2, info⟩, ⟨some ⟨wr.heap.size, 0, none⟩, 1, 1, [k + 1]⟩]) = piece K info (k + 1)) := Lib.hid fun _ => by
        show tag K (piece K info k ++ (info ++ ([k + 1] ++ []))) = tag K (piece K info k ++ (info ++ [k + 1]))
        rw [List.append_nil]
      rw [HP5.out ()] at hown5
      have HB5 := Lib.hid (HBb.out.trans (hB5.mono HBb.out.size))
      have HF5 : Hid (Fresh (N0 + 2) (some ⟨g5, 0, none⟩) (piece K info (k + 1)) W5) := Lib.hid (fresh_of_own hown5 (piece_lt K info (k + 1)) (by have := HBb.out.size; omega))
      have HJ5 := Lib.hid (HJ.out _ _ _ HJ4.out HB5.out)
      have HK5 := Lib.hid (HK4.out.trans (Kept.of_below HB5.out))
      have hqr : q < wr.heap.size := (Array.getElem?_eq_some_iff.1 HQ4.out).1
      have HQ5 := Lib.hid ((HB5.out.block q hqr).trans HQ4.out)
      clear hown5 hB5 HTb HP HP5 HBb
      obtain ⟨fn, tmps, assign, body, hy, hR⟩ := HY.out pre (g5, c5) W5 HJ5.out ⟨by omega, hcap5.1, hcap5.2, by rw [hpl]; exact HF5.out⟩
      simp only [pieceEncs] at hy
      have HR9 := Lib.hid hR
      clear hR
      gi_wp2
      refine ⟨rfl, HR9.out.mono ?_⟩
      rintro e' W6 (⟨rfl, hJ6, hK6⟩ | ⟨rfl, hJx⟩)
      · have HJ6 := Lib.hid hJ6; have HK6 := Lib.hid (HK5.out.trans hK6); have HF6 := Lib.hid (HF5.out.kept hK6 fun k e => (HX.out k e).2.2.2)
        have HQ6 := Lib.hid ((hK6.block q (Array.getElem?_eq_some_iff.1 HQ5.out).1 fun e => by have := (HX.out q e).2.2.2; omega).trans HQ5.out)
        clear hJ6 hK6
        gi_wp2
        go_roundw
        case rel => exact ⟨k + 1, 32, c5, some ⟨g5, 0, none⟩, pre ++ [(g5, c5)], by omega, by go_num, rfl, by omega, hcap5.1, hcap5.2, by rw [List.length_append, hpl]; rfl, Lib.hid fun _ => piece_len K info k, HF6, HJ6, HK6, HQ6⟩
        case measure => simp [intOf]; omega
      · have HJx := Lib.hid hJx
        clear hJx
        gi_wp2
        refine bodyPost_ret (results_none rfl _ _ _) rfl ?_
        exact ⟨⟨_, rfl⟩, .inr ⟨_, trivial, HJx.out⟩⟩
    · obtain rfl : k = 255 := by omega
      gi_wp2
      go_end0
      exact ⟨⟨_, rfl⟩, .inl ⟨pre, hpl, HJ4.out⟩⟩
end Go.Proofs.YtkplkfokpniflaaDoor.Sha

namespace Go.Proofs.YtkplkfokpniflaaDoor.Sha
set_option linter.all false
open Go.RowKit Iter Go.Shelf
attribute [local go_sem] Oper.semAt_some

theorem run_append_fit {w : World} (base g n cap m c B : Nat) (ty : TypeId) (xs ys : List Nat) (ad : Addr) (hown : w.ownsRow base 5 1 (.slice (some ⟨g, 0, none⟩) n cap) n (bcells xs))
    (hR : Rd w B (some ad) ys) (hm : ys.length = m) (hfit : n + m ≤ cap) :
    ∃ w', (Builtin.append_ #[22, 22] ty #[.slice (some ⟨g, 0, none⟩) n cap, .slice (some ad) m c]).run Tryd.prog w = .ok (.slice (some ⟨g, 0, none⟩) (n + m) cap) w' ∧
      w'.ownsRow base 5 1 (.slice (some ⟨g, 0, none⟩) (n + m) cap) (n + m) (bcells (xs ++ ys)) ∧ w.grownBy w' (some g) := by
  obtain ⟨i, hi, hz, hsz, hby⟩ := byteInfo
  obtain ⟨w', h1, h2, h3⟩ := run_append_fits (P := Tryd.prog) w base 22 ty 5 i 1 Tryd.underlying22 hi hsz g n cap (bcells xs) hown ad m c (bcells ys) (by rw [bcells_len]; omega) (news_of_rd hR) (bcells_one ys) hfit
  exact ⟨w', h1, by rw [bcells_append]; exact h2, h3⟩
theorem step_append_fit {ops : Array Oper} {o : Oper} {a : Act} {w : World} {K : Act → World → Prop} {Q : Exit → Act → World → Prop} {E : Prop} {ts : Array Value} (hw : Region.wanted o (yielded ops ts) = true) (s x : Operand)
    (ho : o.op = .call { callee := .builtin .append, args := #[s, x], argTypes := #[22, 22] }) (base g n cap m c B : Nat) (xs ys : List Nat) (ad : Addr)
    (hs : a.eval s = .slice (some ⟨g, 0, none⟩) n cap) (hx : a.eval x = .slice (some ad) m c)
    (hown : w.ownsRow base 5 1 (.slice (some ⟨g, 0, none⟩) n cap) n (bcells xs)) (hR : Rd w B (some ad) ys) (hm : ys.length = m) (hfit : n + m ≤ cap)
    (k : ∀ w', w'.ownsRow base 5 1 (.slice (some ⟨g, 0, none⟩) (n + m) cap) (n + m) (bcells (xs ++ ys)) → w.grownBy w' (some g) → K (a.put o.dst (.slice (some ⟨g, 0, none⟩) (n + m) cap)) w') :
    if Region.wanted o (yielded ops ts) = true then Oper.wp Tryd.prog o a w K Q else E := by
  rw [if_pos hw]
  obtain ⟨w', hrun, h1, h2⟩ := run_append_fit base g n cap m c B o.type xs ys ad hown hR hm hfit
  unfold Oper.wp execOp
  simp only [ho, resolve, invoke, builtin, Sem.run_bind, Sem.run_pure, Result.andThen_ok, List.map_toArray, List.map_cons, List.map_nil, hs, hx, hrun]
  exact k w' h1 h2

theorem own_kept {w w' : World} {base g n cap : Nat} {xs : List Value} (h : w.ownsRow base 5 1 (.slice (some ⟨g, 0, none⟩) n cap) n xs) (e : w'.heap[g]? = w.heap[g]?) : w'.ownsRow base 5 1 (.slice (some ⟨g, 0, none⟩) n cap) n xs := by
  refine ⟨h.1, ?_⟩
  rcases h.2 with ⟨e1, _⟩ | ⟨g', c, cur, e1, hb, hc, rest⟩
  · cases e1
  · injection e1 with e2 _ e6
    have e3 : (⟨g, 0, none⟩ : Addr) = ⟨g', 0, none⟩ := Option.some.inj e2
    injection e3 with e4
    subst e4 e6
    exact .inr ⟨g, cap, cur, rfl, hb, e.trans hc, rest⟩
theorem calm_normal {Q : Exit → Act → World → Prop} {a : Act} {w : World} (h : Q .normal a w) : calm Q .normal a w := h
theorem expand_split {k info : List Nat} {kk L m N : Nat} (h : kk < 255) (hL : L = 32 * kk) (hm : m ≤ 32) (hN : L + m = N) : (upto k info 255).take N = upto k info kk ++ (piece k info (kk + 1)).take m := by
  rw [expand_take (i := kk + 1) (by omega) (by omega)]
  show (upto k info kk ++ piece k info (kk + 1)).take N = _
  rw [List.take_append, upto_len, List.take_of_length_le (by rw [upto_len]; omega), show N - 32 * kk = m by omega]
theorem slice_some (g n c m : Nat) (hm : m ≤ n) (hnc : n ≤ c) (hc : 0 < c) (w : World) : (Instr.slice 22 (.slice (some ⟨g, 0, none⟩) n c) none (some (.int .i64 (m : Int))) none).run Tryd.prog w = .ok (.slice (some ⟨g, 0, none⟩) m c) w := by
  have h1 : Tryd.prog.underlying 22 = some (.slice (Tryd.prog.elem 22)) := by kernel_rfl
  have h3 : Tryd.prog.elem 22 = 5 := by kernel_rfl
  have h4 : (Tryd.prog.info? 5).map (·.size) = some 1 := by kernel_rfl
  cases hq : Tryd.prog.info? 5 with
  | none => simp [hq] at h4
  | some i =>
    have hs1 : i.size = 1 := by simpa [hq] using h4
    rw [run_slice_h (a := some ⟨g, 0, none⟩) (len := n) (cap := c) (w := w) (t := 22) (ht := h1) .i64 (m : Int) (by omega) (by omega), h3]
    have e3 : ¬ c = 0 := by omega
    have e4 : (⟨g, 0, none⟩ : Addr).add 0 = ⟨g, 0, none⟩ := rfl
    simp [sizeOf, typeInfo, hq, hs1, sliced, e4]
/-- between two rounds -/
structure ExI (b0 B0 N : Nat) (k info : List Nat) (w : World) (pre : List (Nat × Nat)) (W : World) : Prop where
  more : pre = [] ∨ 32 * pre.length < N
  own : W.ownsRow w.heap.size 5 1 (.slice (some ⟨b0 + 1, 0, none⟩) (32 * pre.length) N) (32 * pre.length) (bcells (upto k info pre.length))
  box : W.cell? ⟨B0, 0, none⟩ = some (.slice (some ⟨b0 + 1, 0, none⟩) (32 * pre.length) N)
  free : W.frozen? ⟨B0, 0, none⟩ = false
  num : W.cell? ⟨b0, 0, none⟩ = some (.int .i64 (N : Int))
  below : Below w.heap.size w W
structure ExX (b0 B0 N : Nat) (out : List Nat) (w : World) (c : Code) (W : World) : Prop where
  code : c = .exit 0
  own : W.ownsRow w.heap.size 5 1 (.slice (some ⟨b0 + 1, 0, none⟩) N N) N (bcells out)
  box : W.cell? ⟨B0, 0, none⟩ = some (.slice (some ⟨b0 + 1, 0, none⟩) N N)
  below : Below w.heap.size w W
theorem frozen_of_block {w w' : World} {a : Addr} (h : w'.heap[a.block]? = w.heap[a.block]?) : w'.frozen? a = w.frozen? a := by
  unfold World.frozen?; rw [h]
theorem ExI.kept {b0 B0 N M : Nat} {k info : List Nat} {w : World} {pre : List (Nat × Nat)} {A B : World} (h : ExI b0 B0 N k info w pre A) (hk : Kept (fun k => k = M ∨ k = M + 1) A B) (h1 : b0 + 1 < M) (h2 : B0 < M) (hw : w.heap.size ≤ M) : ExI b0 B0 N k info w pre B := by
  have hlt := (h.own.lt _ rfl).2
  have hB := block_lt_of_cell h.box
  have hN := block_lt_of_cell h.num
  have e0 := hk.block (b0 + 1) hlt (by omega)
  have e1 := hk.block B0 hB (by omega)
  have e2 := hk.block b0 hN (by omega)
  exact ⟨h.more, own_kept h.own e0, (World.cell?_of_block (a := ⟨B0, 0, none⟩) e1).trans h.box, (frozen_of_block (a := ⟨B0, 0, none⟩) e1).trans h.free, (World.cell?_of_block (a := ⟨b0, 0, none⟩) e2).trans h.num, hk.below h.below (fun i e => by omega) h.below.size⟩
theorem ExX.kept {b0 B0 N M : Nat} {out : List Nat} {w : World} {c : Code} {A B : World} (h : ExX b0 B0 N out w c A) (hk : Kept (fun k => k = M ∨ k = M + 1) A B) (h1 : b0 + 1 < M) (h2 : B0 < M) (hw : w.heap.size ≤ M) : ExX b0 B0 N out w c B := by
  have hlt := (h.own.lt _ rfl).2
  have hB := block_lt_of_cell h.box
  have e0 := hk.block (b0 + 1) hlt (by omega)
  have e1 := hk.block B0 hB (by omega)
  exact ⟨h.code, own_kept h.own e0, (World.cell?_of_block (a := ⟨B0, 0, none⟩) e1).trans h.box, hk.below h.below (fun i e => by omega) h.below.size⟩
theorem pieceKn_kept {k info : List Nat} {B : Nat} {pre : List (Nat × Nat)} {x : Nat × Nat} {w w' : World} {X : Nat → Prop} (h : pieceKn k info B pre x w) (hk : Kept X w w') (hX : ∀ k, X k → k < B) : pieceKn k info B pre x w' :=
  ⟨h.1, h.2.1, h.2.2.1, h.2.2.2.kept hk hX⟩

set_option maxHeartbeats 1000000 in
theorem pieces_any (v1 v2 : Value) (w : World) (h1 : ∃ A n c, v1 = .slice A n c) (h2 : ∃ A n c, v2 = .slice A n c) :
    Calls Tryd.prog 58 #[v1, v2] w fun e w' => e = .returned (.func (.func 63) #[] #[.pointer (some ⟨w.heap.size, 0, none⟩), .pointer (some ⟨w.heap.size + 1, 0, none⟩)]) ∧ w' = (w.alloc (.cells #[v1] 22)).alloc (.cells #[v2] 22) := by
  obtain ⟨A, n, c, rfl⟩ := h1
  obtain ⟨A2, n2, c2, rfl⟩ := h2
  go_enter Tryd.func58, Tryd.ntmps58
  go_wp2
  go_ret
  exact ⟨rfl, rfl⟩

set_option maxHeartbeats 8000000 in
set_option maxRecDepth 100000 in
theorem expand_any (A A2 : Option Addr) (key info : List Nat) (n c n2 c2 N : Nat) (w : World) (hT : Tables w) (hR : Rd w w.heap.size A key) (hn : key.length = n) (hnc : n ≤ c) (hc : c ≤ 9223372036854775807) (hm : n ≤ 100000)
    (hR2 : Rd w w.heap.size A2 info) (hn2 : info.length = n2) (hnc2 : n2 ≤ c2) (hc2 : c2 ≤ 9223372036854775807) (hm2 : n2 ≤ 100000) (hN : N ≤ 8160) :
    Calls Tryd.prog 50 #[.slice A n c, .slice A2 n2 c2, .int .i64 N] w fun e w' => ∃ h, e = .returned (.slice (some ⟨h, 0, none⟩) N N) ∧ w'.ownsRow w.heap.size 5 1 (.slice (some ⟨h, 0, none⟩) N N) N (bcells (expand key info N)) ∧ Below w.heap.size w w' := by
  have h2 := hT.lt
  have HT := Lib.hid hT; have HR := Lib.hid hR; have HR2 := Lib.hid hR2; have HN := Lib.hid (fun _ : Unit => hn); have HN2 := Lib.hid (fun _ : Unit => hn2); clear hT hR hR2 hn hn2
  obtain ⟨bi, hbi, hbz, hbs, hbb⟩ := byteInfo
  refine callsIn_wide.1 (callsIn_of_wp_marks (n := 0) Tryd.func50 rfl trivial (wpIn_wide.2 ?_) rfl)
  simp only [Tryd.ntmps50, List.size_toArray, List.length_cons, List.length_nil, Nat.reduceAdd, Nat.reduceSub, Array.replicate_succ, Array.replicate_zero, List.push_toArray, List.append_toArray, List.nil_append, List.cons_append]
  have hdec : decide ((0 : Int) ≤ (N : Int) ∧ (N : Int) ≤ 8160) = true := decide_eq_true ⟨by omega, by omega⟩
  go_wp2_with fail
  refine (asked_any _ _).mono ?_
  rintro e' w1 ⟨rfl, rfl⟩
  rw [hdec]
  clear hdec
  go_wp2_with (at_make; refine wpList_make_own _ rfl (.const (.int .i64 0)) (.tmp 12) 22 rfl w.heap.size 5 bi (.int .u8 0) 1 Tryd.underlying22 hbi hbz hbs .i64 .i64 (N : Int) N rfl rfl rfl (by rw [hbb]; omega) (by unfold maxLen; omega) (by simp) ?_)
  intro w2 hown2 hgrow2
  have HO2 := Lib.hid hown2
  have HBn := Lib.hid ((Below.refl w.heap.size w).alloc (Nat.le_refl _) (.cells #[.int .i64 (N : Int)] 3))
  have hsz0 : (w.alloc (.cells #[.int .i64 (N : Int)] 3)).heap.size = w.heap.size + 1 := by simp
  have hcN : w2.cell? ⟨w.heap.size, 0, none⟩ = some (.int .i64 (N : Int)) := by
    rw [World.cell?_of_block (w := w.alloc (.cells #[.int .i64 (N : Int)] 3)) (a := ⟨w.heap.size, 0, none⟩) (hgrow2.block w.heap.size (by omega) (by simp)), cell_of_row _ _ 0 _ 3 (0, 0) (heap_alloc_last w _)]; rfl
  have HB2 := Lib.hid (HBn.out.grown hgrow2 HBn.out.size (fun k e => by cases e))
  have hlt2 := hown2.lt _ rfl
  have hsz2 : w.heap.size + 1 < w2.heap.size := hlt2.2
  clear hown2 hgrow2 hlt2 HBn hsz0
  have HO3 := Lib.hid (own_below HO2.out ((Below.refl w2.heap.size w2).alloc (Nat.le_refl _) (.cells #[.slice (some ⟨w.heap.size + 1, 0, none⟩) 0 N] 22)) (Nat.le_refl _))
  have HB3 := Lib.hid (HB2.out.alloc HB2.out.size (.cells #[.slice (some ⟨w.heap.size + 1, 0, none⟩) 0 N] 22))
  go_wp2_with fail
  refine (pieces_any _ _ _ ⟨_, _, _, rfl⟩ ⟨_, _, _, rfl⟩).mono ?_
  rintro e' w4 ⟨rfl, rfl⟩
  go_wp2_with fail
  have hsize : (((w2.alloc (.cells #[.slice (some ⟨w.heap.size + 1, 0, none⟩) 0 N] 22)).alloc (.cells #[.slice A n c] 22)).alloc (.cells #[.slice A2 n2 c2] 22)).heap.size = w2.heap.size + 3 := by simp
  have hl1 := heap_alloc_last w2 (.cells #[.slice (some ⟨w.heap.size + 1, 0, none⟩) 0 N] 22)
  have hl2 := heap_alloc_last (w2.alloc (.cells #[.slice (some ⟨w.heap.size + 1, 0, none⟩) 0 N] 22)) (.cells #[.slice A n c] 22)
  have hl3 := heap_alloc_last ((w2.alloc (.cells #[.slice (some ⟨w.heap.size + 1, 0, none⟩) 0 N] 22)).alloc (.cells #[.slice A n c] 22)) (.cells #[.slice A2 n2 c2] 22)
  rw [show (w2.alloc (.cells #[.slice (some ⟨w.heap.size + 1, 0, none⟩) 0 N] 22)).heap.size = w2.heap.size + 1 by simp] at hl2
  rw [show ((w2.alloc (.cells #[.slice (some ⟨w.heap.size + 1, 0, none⟩) 0 N] 22)).alloc (.cells #[.slice A n c] 22)).heap.size = w2.heap.size + 2 by simp] at hl3
  have hb23 : Below (w2.heap.size + 1) (w2.alloc (.cells #[.slice (some ⟨w.heap.size + 1, 0, none⟩) 0 N] 22)) (((w2.alloc (.cells #[.slice (some ⟨w.heap.size + 1, 0, none⟩) 0 N] 22)).alloc (.cells #[.slice A n c] 22)).alloc (.cells #[.slice A2 n2 c2] 22)) := ((Below.refl _ _).alloc (by simp) _).alloc (by simp) _
  have hb3 : Below (w2.heap.size + 2) ((w2.alloc (.cells #[.slice (some ⟨w.heap.size + 1, 0, none⟩) 0 N] 22)).alloc (.cells #[.slice A n c] 22)) (((w2.alloc (.cells #[.slice (some ⟨w.heap.size + 1, 0, none⟩) 0 N] 22)).alloc (.cells #[.slice A n c] 22)).alloc (.cells #[.slice A2 n2 c2] 22)) := (Below.refl _ _).alloc (by simp) _
  have hbA : Below w2.heap.size w2 (((w2.alloc (.cells #[.slice (some ⟨w.heap.size + 1, 0, none⟩) 0 N] 22)).alloc (.cells #[.slice A n c] 22)).alloc (.cells #[.slice A2 n2 c2] 22)) := (((Below.refl _ _).alloc (Nat.le_refl _) _).alloc (by simp) _).alloc (by simp; omega) _
  generalize ((w2.alloc (.cells #[.slice (some ⟨w.heap.size + 1, 0, none⟩) 0 N] 22)).alloc (.cells #[.slice A n c] 22)).alloc (.cells #[.slice A2 n2 c2] 22) = W0 at *
  have e1 := (hb23.block w2.heap.size (by omega)).trans hl1
  have e2 := (hb3.block (w2.heap.size + 1) (by omega)).trans hl2
  have HBOX : Hid (W0.cell? ⟨w2.heap.size, 0, none⟩ = some (.slice (some ⟨w.heap.size + 1, 0, none⟩) 0 N)) := Lib.hid (by rw [cell_of_row _ _ 0 _ 22 (0, 0) e1]; rfl)
  have HFRZ : Hid (W0.frozen? ⟨w2.heap.size, 0, none⟩ = false) := Lib.hid (by simp [World.frozen?, e1])
  have HBK : Hid (W0.cell? ⟨w2.heap.size + 1, 0, none⟩ = some (.slice A n c)) := Lib.hid (by rw [cell_of_row _ _ 0 _ 22 (0, 0) e2]; rfl)
  have HBI : Hid (W0.cell? ⟨w2.heap.size + 1 + 1, 0, none⟩ = some (.slice A2 n2 c2)) := Lib.hid (by rw [cell_of_row _ _ 0 _ 22 (0, 0) hl3]; rfl)
  have HB0 := Lib.hid (HB2.out.trans (hbA.mono HB2.out.size))
  have HOW := Lib.hid (own_below HO2.out hbA (Nat.le_refl _))
  have HNUM := Lib.hid ((hbA.cell (p := ⟨w.heap.size, 0, none⟩) (by show w.heap.size < _; omega)).trans hcN)
  clear hl1 hl2 hl3 hb23 hb3 hbA e1 e2 HO3 HB3 HO2 hcN HB2
  generalize w2.heap.size = B0 at *
  have HS0 := Lib.hid hsize
  refine wpIn_wide.1 (wp_range_hands (P := Tryd.prog) (gf := 63) (lb := #[.pointer (some ⟨B0 + 1, 0, none⟩), .pointer (some ⟨B0 + 1 + 1, 0, none⟩)]) rfl (enters_of Tryd.func63 (by kernel_rfl) rfl)
    (encs := pieceEncs) (fun k => k = w.heap.size + 1 ∨ k = B0) (fun k e => by rcases e with e | e <;> omega)
    (pieces_hands w.heap.size (B0 + 1) (B0 + 1 + 1) A A2 key info n c n2 c2 _ W0 (HT.out.below HB0.out h2) h2 (by omega) (fun k e => by omega) HBK.out HBI.out (HR.out.below HB0.out) (HN.out ()) hnc hc hm (HR2.out.below HB0.out) (HN2.out ()) hnc2 hc2 hm2)
    (fun x => rfl) (fun pre x A B h hk => pieceKn_kept h hk fun k e => by omega)
    (ExI w.heap.size B0 N (blockK key) info w) (fun c _ => ExX w.heap.size B0 N (expand key info N) w c)
    (fun pre A B h hk => h.kept hk (by omega) (by omega) (by omega)) (fun c pre A B h hk => h.kept hk (by omega) (by omega) (by omega))
    ⟨.inl rfl, HOW.out, HBOX.out, HFRZ.out, HNUM.out, HB0.out⟩
    (fun x => { tmps := #[.slice A n c, .slice A2 n2 c2, .int .i64 N, undef, undef, .pointer (some ⟨w.heap.size, 0, none⟩), .slice none 0 0, .pointer (some ⟨B0, 0, none⟩), .slice (some ⟨x.1, 0, none⟩) 32 x.2, .int .i64 N, .bool true, .bool false, .int .i64 N, .slice (some ⟨w.heap.size + 1, 0, none⟩) 0 N, .slice A n c, .slice A2 n2 c2, .func (.func 63) #[] #[.pointer (some ⟨B0 + 1, 0, none⟩), .pointer (some ⟨B0 + 1 + 1, 0, none⟩)], .slice (some ⟨x.1, 0, none⟩) 32 x.2, undef, undef, undef, undef, undef, undef, undef, undef, undef, undef, undef, undef, undef, undef, undef, undef], defers := [] }) ?assign ?body ?done ?stop)
  case assign =>
    intro l x W K hK
    simp only [pieceEncs]
    gi_wp2
    exact hK
  case body =>
    rintro l pre ⟨g, cp⟩ W hszW hI ⟨h255, hc32, hcm, hF⟩
    dsimp only at hc32 hcm hF
    have hmore := hI.more
    have HOI := Lib.hid hI.own; have HBXI := Lib.hid hI.box; have HFI := Lib.hid hI.free; have HNI := Lib.hid hI.num; have HBI2 := Lib.hid hI.below
    have HFR := Lib.hid hF
    have HMO := Lib.hid hmore
    clear hI hF hmore
    generalize hpl : pre.length = kk at *
    have HPL := Lib.hid (fun _ : Unit => hpl)
    clear hpl
    have h32 : 32 * kk ≤ N := by
      rcases HMO.out with e | e
      · rw [e] at HPL; have := HPL.out (); simp at this; omega
      · omega
    obtain ⟨L, hL⟩ : ∃ L, L = 32 * kk := ⟨_, rfl⟩
    rw [← hL] at HOI HBXI
    have HLE := Lib.hid (fun _ : Unit => hL)
    have h33 : L ≤ N := by omega
    have h34 : 32 * kk ≤ L := by omega
    have h35 : L ≤ 32 * kk := by omega
    clear hL h32
    obtain ⟨r, hr, hr'⟩ : ∃ r : Nat, L + r ≤ N ∧ N ≤ L + r := ⟨N - L, by omega, by omega⟩
    obtain ⟨m, hmm, hm32, hmr, hmpos⟩ : ∃ m : Nat, m = min 32 r ∧ m ≤ 32 ∧ m ≤ r ∧ (m = r ∨ m = 32) := ⟨min 32 r, rfl, by omega, by omega, by omega⟩
    gi_wp2_with fail
    refine region_drawn_in (plain_round _ l) (by kernel_rfl) (by kernel_rfl) ?_
    have HOI1 := Lib.hid (HOI.out.drew)
    have HBI3 := Lib.hid (Below.drew HBI2.out)
    have HBX1 := Lib.hid (show W.drew.cell? ⟨B0, 0, none⟩ = _ from HBXI.out)
    have HN1 := Lib.hid (show W.drew.cell? ⟨w.heap.size, 0, none⟩ = _ from HNI.out)
    have HF1 := Lib.hid (show W.drew.frozen? ⟨B0, 0, none⟩ = _ from HFI.out)
    have HFR1 := Lib.hid (HFR.out.kept (Kept.drew (X := fun _ => False) W) fun k e => e.elim)
    have HKW := Lib.hid (Kept.drew (X := fun k => k = w.heap.size + 1 ∨ k = B0) W)
    generalize W.drew = wd at *
    have x1 : IntKind.i64.wrap (r : Int) = (r : Int) := by rw [IntKind.wrap_i64]; omega
    have x2 : (N : Int) - (L : Int) = (r : Int) := by omega
    have x3 : (if (r : Int) < 32 then (r : Int) else 32) = (m : Int) := by split <;> omega
    have HMM := Lib.hid (fun _ : Unit => hmm)
    clear hmm
    have hsl := slice_some g 32 cp m hm32 hc32 (by omega)
    --REGION
    have b0 := HBX1.out
    have b1 := HN1.out
    refine wpAny_take (i := 1) (v := ?v1n1) rfl (by kernel_rfl) (by kernel_rfl) (by kernel_rfl) (fun _ _ _ h => h) (Or.inl ⟨by rfl, ?y1n1⟩) ?r1n1
    case y1n1 => (intro w'; go_simp; try with_reducible rfl)
    simp only [List.getElem_toArray, List.getElem_cons_succ, List.getElem_cons_zero, Act.put, List.setIfInBounds_toArray, List.set_cons_zero, List.set_cons_succ]
    refine wpAny_take (i := 2) (v := ?v2n2) rfl (by kernel_rfl) (by kernel_rfl) (by kernel_rfl) (fun _ _ _ h => h) (Or.inl ⟨by rfl, ?y2n2⟩) ?r2n2
    case y2n2 => (intro w'; go_simp; try with_reducible rfl)
    simp only [List.getElem_toArray, List.getElem_cons_succ, List.getElem_cons_zero, Act.put, List.setIfInBounds_toArray, List.set_cons_zero, List.set_cons_succ]
    refine wpAny_take (i := 3) (v := ?v3n3) rfl (by kernel_rfl) (by kernel_rfl) (by kernel_rfl) (fun _ _ _ h => h) (Or.inl ⟨by rfl, ?y3n3⟩) ?r3n3
    case y3n3 => (intro w'; go_simp; try with_reducible rfl)
    simp only [List.getElem_toArray, List.getElem_cons_succ, List.getElem_cons_zero, Act.put, List.setIfInBounds_toArray, List.set_cons_zero, List.set_cons_succ]
    refine have tail : ∀ listed : Array Bool, listed = #[true, true, true, true, true, true, true, true, true, true, false, false] → wpAny ?tP ?tm ?to ?tQ 2 listed ?ta ?tw := ?tl; ?tmain
    case tmain =>
      refine wpAny_ready (rs := [0, 4, 5]) (by kernel_rfl) (by simp) ?_
      refine (AllReady.cons rfl (fun K hK => ?_) (AllReady.cons rfl (fun K hK => ?_) (AllReady.cons rfl (fun K hK => ?_) AllReady.nil)))
      · simp only [List.getElem_toArray, List.getElem_cons_succ, List.getElem_cons_zero]
        go_simp
        refine hK _ _ ?_
        clear hK K
        try simp only [List.getElem_toArray, List.getElem_cons_succ, List.getElem_cons_zero, Act.put, List.setIfInBounds_toArray, List.set_cons_zero, List.set_cons_succ]
        refine wpAny_ready (rs := [4, 5]) (by kernel_rfl) (by simp) ?_
        refine (AllReady.cons rfl (fun K hK => ?_) (AllReady.cons rfl (fun K hK => ?_) AllReady.nil))
        · simp only [List.getElem_toArray, List.getElem_cons_succ, List.getElem_cons_zero]
          go_simp
          refine hK _ _ ?_
          clear hK K
          try simp only [List.getElem_toArray, List.getElem_cons_succ, List.getElem_cons_zero, Act.put, List.setIfInBounds_toArray, List.set_cons_zero, List.set_cons_succ]
          refine wpAny_ready (rs := [5]) (by kernel_rfl) (by simp) ?_
          refine (AllReady.cons rfl (fun K hK => ?_) AllReady.nil)
          · simp only [List.getElem_toArray, List.getElem_cons_succ, List.getElem_cons_zero]
            go_simp
            refine hK _ _ ?_
            clear hK K
            try simp only [List.getElem_toArray, List.getElem_cons_succ, List.getElem_cons_zero, Act.put, List.setIfInBounds_toArray, List.set_cons_zero, List.set_cons_succ]
            refine wpAny_take (i := 6) (v := ?v6n4) rfl (by kernel_rfl) (by kernel_rfl) (by kernel_rfl) (fun _ _ _ h => h) (Or.inl ⟨by rfl, ?y6n4⟩) ?r6n4
            case y6n4 => (intro w'; go_simp; try with_reducible rfl)
            simp only [List.getElem_toArray, List.getElem_cons_succ, List.getElem_cons_zero, Act.put, List.setIfInBounds_toArray, List.set_cons_zero, List.set_cons_succ]
            refine wpAny_take (i := 7) (v := ?v7n5) rfl (by kernel_rfl) (by kernel_rfl) (by kernel_rfl) (fun _ _ _ h => h) (Or.inl ⟨by rfl, ?y7n5⟩) ?r7n5
            case y7n5 => (intro w'; go_simp; try with_reducible rfl)
            simp only [List.getElem_toArray, List.getElem_cons_succ, List.getElem_cons_zero, Act.put, List.setIfInBounds_toArray, List.set_cons_zero, List.set_cons_succ]
            refine wpAny_take (i := 8) (v := ?v8n6) rfl (by kernel_rfl) (by kernel_rfl) (by kernel_rfl) (fun _ _ _ h => h) (Or.inl ⟨by rfl, ?y8n6⟩) ?r8n6
            case y8n6 => (intro w'; go_simp; try with_reducible rfl)
            simp only [List.getElem_toArray, List.getElem_cons_succ, List.getElem_cons_zero, Act.put, List.setIfInBounds_toArray, List.set_cons_zero, List.set_cons_succ]
            refine wpAny_take (i := 9) (v := ?v9n7) rfl (by kernel_rfl) (by kernel_rfl) (by kernel_rfl) (fun _ _ _ h => h) (Or.inl ⟨by rfl, ?y9n7⟩) ?r9n7
            case y9n7 => (intro w'; go_simp; try with_reducible rfl)
            simp only [List.getElem_toArray, List.getElem_cons_succ, List.getElem_cons_zero, Act.put, List.setIfInBounds_toArray, List.set_cons_zero, List.set_cons_succ]
            exact tail _ (by kernel_rfl)
        · simp only [List.getElem_toArray, List.getElem_cons_succ, List.getElem_cons_zero]
          go_simp
          refine hK _ _ ?_
          clear hK K
          try simp only [List.getElem_toArray, List.getElem_cons_succ, List.getElem_cons_zero, Act.put, List.setIfInBounds_toArray, List.set_cons_zero, List.set_cons_succ]
          refine wpAny_take (i := 6) (v := ?v6n8) rfl (by kernel_rfl) (by kernel_rfl) (by kernel_rfl) (fun _ _ _ h => h) (Or.inl ⟨by rfl, ?y6n8⟩) ?r6n8
          case y6n8 => (intro w'; go_simp; try with_reducible rfl)
          simp only [List.getElem_toArray, List.getElem_cons_succ, List.getElem_cons_zero, Act.put, List.setIfInBounds_toArray, List.set_cons_zero, List.set_cons_succ]
          refine wpAny_ready (rs := [4]) (by kernel_rfl) (by simp) ?_
          refine (AllReady.cons rfl (fun K hK => ?_) AllReady.nil)
          · simp only [List.getElem_toArray, List.getElem_cons_succ, List.getElem_cons_zero]
            go_simp
            refine hK _ _ ?_
            clear hK K
            try simp only [List.getElem_toArray, List.getElem_cons_succ, List.getElem_cons_zero, Act.put, List.setIfInBounds_toArray, List.set_cons_zero, List.set_cons_succ]
            refine wpAny_take (i := 7) (v := ?v7n9) rfl (by kernel_rfl) (by kernel_rfl) (by kernel_rfl) (fun _ _ _ h => h) (Or.inl ⟨by rfl, ?y7n9⟩) ?r7n9
            case y7n9 => (intro w'; go_simp; try with_reducible rfl)
            simp only [List.getElem_toArray, List.getElem_cons_succ, List.getElem_cons_zero, Act.put, List.setIfInBounds_toArray, List.set_cons_zero, List.set_cons_succ]
            refine wpAny_take (i := 8) (v := ?v8n10) rfl (by kernel_rfl) (by kernel_rfl) (by kernel_rfl) (fun _ _ _ h => h) (Or.inl ⟨by rfl, ?y8n10⟩) ?r8n10
            case y8n10 => (intro w'; go_simp; try with_reducible rfl)
            simp only [List.getElem_toArray, List.getElem_cons_succ, List.getElem_cons_zero, Act.put, List.setIfInBounds_toArray, List.set_cons_zero, List.set_cons_succ]
            refine wpAny_take (i := 9) (v := ?v9n11) rfl (by kernel_rfl) (by kernel_rfl) (by kernel_rfl) (fun _ _ _ h => h) (Or.inl ⟨by rfl, ?y9n11⟩) ?r9n11
            case y9n11 => (intro w'; go_simp; try with_reducible rfl)
            simp only [List.getElem_toArray, List.getElem_cons_succ, List.getElem_cons_zero, Act.put, List.setIfInBounds_toArray, List.set_cons_zero, List.set_cons_succ]
            exact tail _ (by kernel_rfl)
      · simp only [List.getElem_toArray, List.getElem_cons_succ, List.getElem_cons_zero]
        go_simp
        refine hK _ _ ?_
        clear hK K
        try simp only [List.getElem_toArray, List.getElem_cons_succ, List.getElem_cons_zero, Act.put, List.setIfInBounds_toArray, List.set_cons_zero, List.set_cons_succ]
        refine wpAny_ready (rs := [0, 5]) (by kernel_rfl) (by simp) ?_
        refine (AllReady.cons rfl (fun K hK => ?_) (AllReady.cons rfl (fun K hK => ?_) AllReady.nil))
        · simp only [List.getElem_toArray, List.getElem_cons_succ, List.getElem_cons_zero]
          go_simp
          refine hK _ _ ?_
          clear hK K
          try simp only [List.getElem_toArray, List.getElem_cons_succ, List.getElem_cons_zero, Act.put, List.setIfInBounds_toArray, List.set_cons_zero, List.set_cons_succ]
          refine wpAny_ready (rs := [5]) (by kernel_rfl) (by simp) ?_
          refine (AllReady.cons rfl (fun K hK => ?_) AllReady.nil)
          · simp only [List.getElem_toArray, List.getElem_cons_succ, List.getElem_cons_zero]
            go_simp
            refine hK _ _ ?_
            clear hK K
            try simp only [List.getElem_toArray, List.getElem_cons_succ, List.getElem_cons_zero, Act.put, List.setIfInBounds_toArray, List.set_cons_zero, List.set_cons_succ]
            refine wpAny_take (i := 6) (v := ?v6n12) rfl (by kernel_rfl) (by kernel_rfl) (by kernel_rfl) (fun _ _ _ h => h) (Or.inl ⟨by rfl, ?y6n12⟩) ?r6n12
            case y6n12 => (intro w'; go_simp; try with_reducible rfl)
            simp only [List.getElem_toArray, List.getElem_cons_succ, List.getElem_cons_zero, Act.put, List.setIfInBounds_toArray, List.set_cons_zero, List.set_cons_succ]
            refine wpAny_take (i := 7) (v := ?v7n13) rfl (by kernel_rfl) (by kernel_rfl) (by kernel_rfl) (fun _ _ _ h => h) (Or.inl ⟨by rfl, ?y7n13⟩) ?r7n13
            case y7n13 => (intro w'; go_simp; try with_reducible rfl)
            simp only [List.getElem_toArray, List.getElem_cons_succ, List.getElem_cons_zero, Act.put, List.setIfInBounds_toArray, List.set_cons_zero, List.set_cons_succ]
            refine wpAny_take (i := 8) (v := ?v8n14) rfl (by kernel_rfl) (by kernel_rfl) (by kernel_rfl) (fun _ _ _ h => h) (Or.inl ⟨by rfl, ?y8n14⟩) ?r8n14
            case y8n14 => (intro w'; go_simp; try with_reducible rfl)
            simp only [List.getElem_toArray, List.getElem_cons_succ, List.getElem_cons_zero, Act.put, List.setIfInBounds_toArray, List.set_cons_zero, List.set_cons_succ]
            refine wpAny_take (i := 9) (v := ?v9n15) rfl (by kernel_rfl) (by kernel_rfl) (by kernel_rfl) (fun _ _ _ h => h) (Or.inl ⟨by rfl, ?y9n15⟩) ?r9n15
            case y9n15 => (intro w'; go_simp; try with_reducible rfl)
            simp only [List.getElem_toArray, List.getElem_cons_succ, List.getElem_cons_zero, Act.put, List.setIfInBounds_toArray, List.set_cons_zero, List.set_cons_succ]
            exact tail _ (by kernel_rfl)
        · simp only [List.getElem_toArray, List.getElem_cons_succ, List.getElem_cons_zero]
          go_simp
          refine hK _ _ ?_
          clear hK K
          try simp only [List.getElem_toArray, List.getElem_cons_succ, List.getElem_cons_zero, Act.put, List.setIfInBounds_toArray, List.set_cons_zero, List.set_cons_succ]
          refine wpAny_take (i := 6) (v := ?v6n16) rfl (by kernel_rfl) (by kernel_rfl) (by kernel_rfl) (fun _ _ _ h => h) (Or.inl ⟨by rfl, ?y6n16⟩) ?r6n16
          case y6n16 => (intro w'; go_simp; try with_reducible rfl)
          simp only [List.getElem_toArray, List.getElem_cons_succ, List.getElem_cons_zero, Act.put, List.setIfInBounds_toArray, List.set_cons_zero, List.set_cons_succ]
          refine wpAny_take (i := 7) (v := ?v7n17) rfl (by kernel_rfl) (by kernel_rfl) (by kernel_rfl) (fun _ _ _ h => h) (Or.inl ⟨by rfl, ?y7n17⟩) ?r7n17
          case y7n17 => (intro w'; go_simp; try with_reducible rfl)
          simp only [List.getElem_toArray, List.getElem_cons_succ, List.getElem_cons_zero, Act.put, List.setIfInBounds_toArray, List.set_cons_zero, List.set_cons_succ]
          refine wpAny_take (i := 8) (v := ?v8n18) rfl (by kernel_rfl) (by kernel_rfl) (by kernel_rfl) (fun _ _ _ h => h) (Or.inl ⟨by rfl, ?y8n18⟩) ?r8n18
          case y8n18 => (intro w'; go_simp; try with_reducible rfl)
          simp only [List.getElem_toArray, List.getElem_cons_succ, List.getElem_cons_zero, Act.put, List.setIfInBounds_toArray, List.set_cons_zero, List.set_cons_succ]
          refine wpAny_take (i := 9) (v := ?v9n19) rfl (by kernel_rfl) (by kernel_rfl) (by kernel_rfl) (fun _ _ _ h => h) (Or.inl ⟨by rfl, ?y9n19⟩) ?r9n19
          case y9n19 => (intro w'; go_simp; try with_reducible rfl)
          simp only [List.getElem_toArray, List.getElem_cons_succ, List.getElem_cons_zero, Act.put, List.setIfInBounds_toArray, List.set_cons_zero, List.set_cons_succ]
          refine wpAny_ready (rs := [0]) (by kernel_rfl) (by simp) ?_
          refine (AllReady.cons rfl (fun K hK => ?_) AllReady.nil)
          · simp only [List.getElem_toArray, List.getElem_cons_succ, List.getElem_cons_zero]
            go_simp
            refine hK _ _ ?_
            clear hK K
            try simp only [List.getElem_toArray, List.getElem_cons_succ, List.getElem_cons_zero, Act.put, List.setIfInBounds_toArray, List.set_cons_zero, List.set_cons_succ]
            exact tail _ (by kernel_rfl)
      · simp only [List.getElem_toArray, List.getElem_cons_succ, List.getElem_cons_zero]
        go_simp
        refine hK _ _ ?_
        clear hK K
        try simp only [List.getElem_toArray, List.getElem_cons_succ, List.getElem_cons_zero, Act.put, List.setIfInBounds_toArray, List.set_cons_zero, List.set_cons_succ]
        refine wpAny_take (i := 6) (v := ?v6n20) rfl (by kernel_rfl) (by kernel_rfl) (by kernel_rfl) (fun _ _ _ h => h) (Or.inl ⟨by rfl, ?y6n20⟩) ?r6n20
        case y6n20 => (intro w'; go_simp; try with_reducible rfl)
        simp only [List.getElem_toArray, List.getElem_cons_succ, List.getElem_cons_zero, Act.put, List.setIfInBounds_toArray, List.set_cons_zero, List.set_cons_succ]
        refine wpAny_ready (rs := [0, 4]) (by kernel_rfl) (by simp) ?_
        refine (AllReady.cons rfl (fun K hK => ?_) (AllReady.cons rfl (fun K hK => ?_) AllReady.nil))
        · simp only [List.getElem_toArray, List.getElem_cons_succ, List.getElem_cons_zero]
          go_simp
          refine hK _ _ ?_
          clear hK K
          try simp only [List.getElem_toArray, List.getElem_cons_succ, List.getElem_cons_zero, Act.put, List.setIfInBounds_toArray, List.set_cons_zero, List.set_cons_succ]
          refine wpAny_ready (rs := [4]) (by kernel_rfl) (by simp) ?_
          refine (AllReady.cons rfl (fun K hK => ?_) AllReady.nil)
          · simp only [List.getElem_toArray, List.getElem_cons_succ, List.getElem_cons_zero]
            go_simp
            refine hK _ _ ?_
            clear hK K
            try simp only [List.getElem_toArray, List.getElem_cons_succ, List.getElem_cons_zero, Act.put, List.setIfInBounds_toArray, List.set_cons_zero, List.set_cons_succ]
            refine wpAny_take (i := 7) (v := ?v7n21) rfl (by kernel_rfl) (by kernel_rfl) (by kernel_rfl) (fun _ _ _ h => h) (Or.inl ⟨by rfl, ?y7n21⟩) ?r7n21
            case y7n21 => (intro w'; go_simp; try with_reducible rfl)
            simp only [List.getElem_toArray, List.getElem_cons_succ, List.getElem_cons_zero, Act.put, List.setIfInBounds_toArray, List.set_cons_zero, List.set_cons_succ]
            refine wpAny_take (i := 8) (v := ?v8n22) rfl (by kernel_rfl) (by kernel_rfl) (by kernel_rfl) (fun _ _ _ h => h) (Or.inl ⟨by rfl, ?y8n22⟩) ?r8n22
            case y8n22 => (intro w'; go_simp; try with_reducible rfl)
            simp only [List.getElem_toArray, List.getElem_cons_succ, List.getElem_cons_zero, Act.put, List.setIfInBounds_toArray, List.set_cons_zero, List.set_cons_succ]
            refine wpAny_take (i := 9) (v := ?v9n23) rfl (by kernel_rfl) (by kernel_rfl) (by kernel_rfl) (fun _ _ _ h => h) (Or.inl ⟨by rfl, ?y9n23⟩) ?r9n23
            case y9n23 => (intro w'; go_simp; try with_reducible rfl)
            simp only [List.getElem_toArray, List.getElem_cons_succ, List.getElem_cons_zero, Act.put, List.setIfInBounds_toArray, List.set_cons_zero, List.set_cons_succ]
            exact tail _ (by kernel_rfl)
        · simp only [List.getElem_toArray, List.getElem_cons_succ, List.getElem_cons_zero]
          go_simp
          refine hK _ _ ?_
          clear hK K
          try simp only [List.getElem_toArray, List.getElem_cons_succ, List.getElem_cons_zero, Act.put, List.setIfInBounds_toArray, List.set_cons_zero, List.set_cons_succ]
          refine wpAny_take (i := 7) (v := ?v7n24) rfl (by kernel_rfl) (by kernel_rfl) (by kernel_rfl) (fun _ _ _ h => h) (Or.inl ⟨by rfl, ?y7n24⟩) ?r7n24
          case y7n24 => (intro w'; go_simp; try with_reducible rfl)
          simp only [List.getElem_toArray, List.getElem_cons_succ, List.getElem_cons_zero, Act.put, List.setIfInBounds_toArray, List.set_cons_zero, List.set_cons_succ]
          refine wpAny_take (i := 8) (v := ?v8n25) rfl (by kernel_rfl) (by kernel_rfl) (by kernel_rfl) (fun _ _ _ h => h) (Or.inl ⟨by rfl, ?y8n25⟩) ?r8n25
          case y8n25 => (intro w'; go_simp; try with_reducible rfl)
          simp only [List.getElem_toArray, List.getElem_cons_succ, List.getElem_cons_zero, Act.put, List.setIfInBounds_toArray, List.set_cons_zero, List.set_cons_succ]
          refine wpAny_take (i := 9) (v := ?v9n26) rfl (by kernel_rfl) (by kernel_rfl) (by kernel_rfl) (fun _ _ _ h => h) (Or.inl ⟨by rfl, ?y9n26⟩) ?r9n26
          case y9n26 => (intro w'; go_simp; try with_reducible rfl)
          simp only [List.getElem_toArray, List.getElem_cons_succ, List.getElem_cons_zero, Act.put, List.setIfInBounds_toArray, List.set_cons_zero, List.set_cons_succ]
          refine wpAny_ready (rs := [0]) (by kernel_rfl) (by simp) ?_
          refine (AllReady.cons rfl (fun K hK => ?_) AllReady.nil)
          · simp only [List.getElem_toArray, List.getElem_cons_succ, List.getElem_cons_zero]
            go_simp
            refine hK _ _ ?_
            clear hK K
            try simp only [List.getElem_toArray, List.getElem_cons_succ, List.getElem_cons_zero, Act.put, List.setIfInBounds_toArray, List.set_cons_zero, List.set_cons_succ]
            exact tail _ (by kernel_rfl)
    case tl =>
      rintro _ rfl
      refine wpAny_ready (rs := [10]) (by kernel_rfl) (by simp) ?_
      refine AllReady.cons rfl (fun K hK => ?_) AllReady.nil
      simp only [List.getElem_toArray, List.getElem_cons_succ, List.getElem_cons_zero]
      refine step_append_fit ?hw (.tmp 18) (.tmp 27) rfl w.heap.size (w.heap.size + 1) L N m cp wd.heap.size (upto (blockK key) info kk) ((piece (blockK key) info (kk + 1)).take m) ⟨g, 0, none⟩ rfl rfl HOI1.out (HFR1.out.rd.upto m) (by rw [List.length_take, piece_len]; omega) (by omega) ?hk
      case hw => rfl
      case hk =>
        intro w5 hown5 hgrow5
        have HO5 := Lib.hid hown5
        have HK5 := Lib.hid (HKW.out.trans (Kept.of_grown (X := fun k => k = w.heap.size + 1 ∨ k = B0) hgrow5 (fun r e => .inl (Option.some.inj e).symm)))
        have HB5 := Lib.hid (below_of_only HBI3.out hgrow5 (by omega))
        have c5 := (World.cell?_of_block (a := ⟨B0, 0, none⟩) (hgrow5.block B0 (block_lt_of_cell HBX1.out) (by intro e; have := Option.some.inj e; omega))).trans HBX1.out
        have f5 := (frozen_of_block (a := ⟨B0, 0, none⟩) (hgrow5.block B0 (block_lt_of_cell HBX1.out) (by intro e; have := Option.some.inj e; omega))).trans HF1.out
        have n5 := (World.cell?_of_block (a := ⟨w.heap.size, 0, none⟩) (hgrow5.block w.heap.size (block_lt_of_cell HN1.out) (by intro e; have := Option.some.inj e; omega))).trans HN1.out
        clear hown5 hgrow5
        refine hK _ _ ?_
        clear hK K
        try simp only [List.getElem_toArray, List.getElem_cons_succ, List.getElem_cons_zero, Act.put, List.setIfInBounds_toArray, List.set_cons_zero, List.set_cons_succ]
        refine wpAny_ready (rs := [11]) (by kernel_rfl) (by simp) ?_
        refine AllReady.cons rfl (fun K hK => ?_) AllReady.nil
        simp only [List.getElem_toArray, List.getElem_cons_succ, List.getElem_cons_zero]
        go_simp
        refine hK _ _ ?_
        clear hK K
        try simp only [List.getElem_toArray, List.getElem_cons_succ, List.getElem_cons_zero, Act.put, List.setIfInBounds_toArray, List.set_cons_zero, List.set_cons_succ]
        refine wpAny_done (by kernel_rfl) ?_ _
        refine calm_normal ?_
        have HO6 := Lib.hid (own_kept HO5.out (Below.heap_setCell w5 ⟨B0, 0, none⟩ (.slice (some ⟨w.heap.size + 1, 0, none⟩) (L + m) N) (w.heap.size + 1) (by show w.heap.size + 1 ≠ B0; omega)))
        have HK6 := Lib.hid (HK5.out.trans (Kept.of_grown (X := fun k => k = w.heap.size + 1 ∨ k = B0) (only_set (World.grownBy.refl w5 (some B0)) (p := ⟨B0, 0, none⟩) (.inl rfl) (.slice (some ⟨w.heap.size + 1, 0, none⟩) (L + m) N)) (fun r e => .inr (Option.some.inj e).symm)))
        have HB6 := Lib.hid (HB5.out.setCell (p := ⟨B0, 0, none⟩) (by show w.heap.size ≤ B0; omega) (.slice (some ⟨w.heap.size + 1, 0, none⟩) (L + m) N))
        have c6 : (w5.setCell ⟨B0, 0, none⟩ (.slice (some ⟨w.heap.size + 1, 0, none⟩) (L + m) N)).cell? ⟨B0, 0, none⟩ = some (.slice (some ⟨w.heap.size + 1, 0, none⟩) (L + m) N) := World.cell?_setCell_same' _ _ _ (by rw [c5]; rfl)
        have f6 : (w5.setCell ⟨B0, 0, none⟩ (.slice (some ⟨w.heap.size + 1, 0, none⟩) (L + m) N)).frozen? ⟨B0, 0, none⟩ = false := by rw [World.frozen?_setCell]; exact f5
        have n6 := (World.cell?_of_block (a := ⟨w.heap.size, 0, none⟩) (Below.heap_setCell w5 ⟨B0, 0, none⟩ (.slice (some ⟨w.heap.size + 1, 0, none⟩) (L + m) N) w.heap.size (by show w.heap.size ≠ B0; omega))).trans n5
        generalize w5.setCell ⟨B0, 0, none⟩ (.slice (some ⟨w.heap.size + 1, 0, none⟩) (L + m) N) = w6 at *
        clear c5 f5 n5 b0 b1 x1 x2 x3 hsl
        by_cases hfull : L + m = N
        · have hd : ((L : Int) + (m : Int) == (N : Int)) = true := by rw [beq_iff_eq]; omega
          have hd2 : (((L + m : Nat) : Int) == (N : Int)) = true := by rw [beq_iff_eq]; omega
          have HH := Lib.hid (fun _ : Unit => hfull)
          clear hfull
          gi_wp2
          have HSPL := expand_split (k := blockK key) (info := info) h255 (HLE.out ()) hm32 (HH.out ())
          refine ⟨HK6.out, rfl, ?_, ?_, HB6.out⟩
          · have := HO6.out
            rw [HH.out ()] at this
            unfold expand
            rw [HSPL]
            exact this
          · rw [c6, HH.out ()]
        · have hd : ((L : Int) + (m : Int) == (N : Int)) = false := by rw [beq_eq_false_iff_ne]; omega
          have hd2 : (((L + m : Nat) : Int) == (N : Int)) = false := by rw [beq_eq_false_iff_ne]; omega
          obtain rfl : m = 32 := by omega
          gi_wp2
          have hlen : (pre ++ [(g, cp)]).length = kk + 1 := by rw [List.length_append, HPL.out ()]; rfl
          refine ⟨HK6.out, .inr (by rw [hlen]; omega), ?_, ?_, f6, n6, HB6.out⟩
          · rw [hlen, show 32 * (kk + 1) = L + 32 by omega]
            have := HO6.out
            rw [List.take_of_length_le (by rw [piece_len]; omega)] at this
            exact this
          · rw [hlen, show 32 * (kk + 1) = L + 32 by omega]
            exact c6
    --END
  case done =>
    rintro xs W hS hI hD
    exfalso
    rcases hI.more with e | e
    · rw [e] at hS; cases hS
    · omega
  case stop =>
    rintro c' pre W _ hX hD
    obtain rfl := hX.code
    have HX := Lib.hid hX
    have c0 := hX.box
    clear hX
    refine wpIn_wide.2 ?_
    go_wp2
    refine ⟨by simp, .inl ⟨_, _, rfl, run_takeDeferred hD, ?_⟩⟩
    refine ⟨_, results_tmp rfl _ _ _, ?_⟩
    have hpb := (Below.refl w.heap.size W).grown (grownBy_putObj' W W0.heap.size (.deferred none)) HX.out.below.size (fun k e => by cases e; omega)
    refine ⟨w.heap.size + 1, rfl, own_kept HX.out.own ?_, HX.out.below.trans hpb⟩
    exact World.putObj_heap_other (by omega)
end Go.Proofs.YtkplkfokpniflaaDoor.Sha

namespace Go.Proofs.YtkplkfokpniflaaDoor.Sha
set_option linter.all false
open Go.RowKit Iter

set_option maxHeartbeats 1000000 in
theorem expand_bad (A A2 : Option Addr) (n c n2 c2 : Nat) (x : Int) (w : World) (hx : x < 0 ∨ 8160 < x) :
    Calls Tryd.prog 50 #[.slice A n c, .slice A2 n2 c2, .int .i64 x] w fun e w' => e = .returned (.slice none 0 0) ∧ Below w.heap.size w w' := by
  have hdec : decide ((0 : Int) ≤ x ∧ x ≤ 8160) = false := decide_eq_false (by omega)
  refine callsIn_wide.1 (callsIn_of_wp_marks (n := 0) Tryd.func50 rfl trivial (wpIn_wide.2 ?_) rfl)
  simp only [Tryd.ntmps50, List.size_toArray, List.length_cons, List.length_nil, Nat.reduceAdd, Nat.reduceSub, Array.replicate_succ, Array.replicate_zero, List.push_toArray, List.append_toArray, List.nil_append, List.cons_append]
  go_wp2_with fail
  refine (asked_any _ _).mono ?_
  rintro e' w1 ⟨rfl, rfl⟩
  rw [hdec]
  clear hdec
  go_wp2
  exact ⟨_, results_tmp rfl _ _ _, rfl, (Below.refl _ _).alloc (Nat.le_refl _) _⟩

set_option maxHeartbeats 1000000 in
theorem label_bad (A A2 : Option Addr) (n c n2 c2 : Nat) (s : ByteArray) (x : Int) (w : World) (hx : x < 0 ∨ 8160 < x ∨ 40 < s.size ∨ 16000 < n2) :
    Calls Tryd.prog 36 #[.slice A n c, .string s, .slice A2 n2 c2, .int .i64 x] w fun e w' => e = .returned (.slice none 0 0) ∧ w = w' := by
  go_enter Tryd.func36, Tryd.ntmps36
  go_wp2_with fail
  refine (asked_any _ _).mono ?_
  rintro e' w1 ⟨rfl, rfl⟩
  by_cases h1 : (0 : Int) ≤ x ∧ x ≤ 8160
  · have hdec : decide ((0 : Int) ≤ x ∧ x ≤ 8160) = true := decide_eq_true h1
    rw [hdec]
    clear hdec
    by_cases h2 : 40 < s.size
    · have y2 : (40 : Int) < (s.size : Int) := by omega
      go_wp2
      go_ret
      exact ⟨rfl, rfl⟩
    · have y2 : ¬ (40 : Int) < (s.size : Int) := by omega
      have y3 : (16000 : Int) < (n2 : Int) := by omega
      go_wp2
      go_ret
      exact ⟨rfl, rfl⟩
  · have hdec : decide ((0 : Int) ≤ x ∧ x ≤ 8160) = false := decide_eq_false h1
    rw [hdec]
    clear hdec
    go_wp2
    go_ret
    exact ⟨rfl, rfl⟩

end Go.Proofs.YtkplkfokpniflaaDoor.Sha
