/- A law for a range over a function whose iterator hands over so many values, told by their number; the caller's word may speak of whatever lay before the loop; iterators may turn blocks of their own. Marks of loops that ended. Nothing of the program. -/
import Derived.Test.YtdkhiooiakdecaaDoorRIterLaw
namespace Go.Proofs.YtdkhiooiakdecaaDoorR.Iter
set_option linter.all false
open Go.RowKit

section
variable {P : Program}

theorem Kept.putGe {N : Nat} (W : World) (l : Nat) (o : Obj) (h : N ≤ l) : Kept (fun b => N ≤ b) W (W.putObj l o) := (Kept.put W l o).mono fun k e => by omega
theorem Kept.alloc {X : Nat → Prop} (W : World) (o : Obj) : Kept X W (W.alloc o) := Kept.of_below ((Below.refl _ W).alloc (Nat.le_refl _) o)
theorem Kept.set {X : Nat → Prop} (W : World) (p : Addr) (v : Value) (h : X p.block) : Kept X W (W.setCell p v) :=
  ⟨rfl, rfl, rfl, by simp [World.setCell], fun k _ hx => Below.heap_setCell W p v k (by intro e; subst e; exact hx h)⟩
theorem Kept.drewN {X : Nat → Prop} (W : World) (n : Nat) : Kept X W (W.drewN n) := ⟨rfl, rfl, rfl, Nat.le_refl _, fun _ _ _ => rfl⟩

/-- an iterator's contract: it hands over val 0, val 1, .. val (cnt - 1); a round leaves all blocks but those of X as they were -/
def HandsN (P : Program) (gf : FuncId) (lb : Array Value) (cnt : Nat) (val : Nat → Array Value) (X : Nat → Prop) (w : World) : Prop :=
  ∀ (l : Nat) (J Jx : Nat → World → Prop) (W : World), Below w.heap.size w W → W.heap.size = w.heap.size + 2 →
    (∀ k A B, J k A → Kept (fun b => W.heap.size ≤ b) A B → J k B) →
    (∀ k A B, Jx k A → Kept (fun b => W.heap.size ≤ b) A B → Jx k B) →
    (∀ k W1, k < cnt → J k W1 → YieldAt Fence.wide 0 P l (val k) W1 fun e W' =>
      (e = .returned (.bool true) ∧ J (k + 1) W' ∧ Kept X W1 W') ∨ (e = .returned (.bool false) ∧ Jx (k + 1) W' ∧ Kept X W1 W')) →
    J 0 W →
    CallsIn Fence.wide 0 P gf (#[.func (.yield l) #[] #[]] ++ lb) W fun e W' => (∃ v, e = .returned v) ∧ (J cnt W' ∨ ∃ k, k ≤ cnt ∧ Jx k W')

/-- how the body of a round may be left -/
def postN (X : Nat → Prop) (I : Nat → World → Prop) (Ix : Code → Nat → World → Prop) (k : Nat) (W : World) : Exit → Act → World → Prop
  | .normal, _, W' => Kept X W W' ∧ I k W'
  | .ret, _, W' => Kept X W W' ∧ Ix .ret k W'
  | .exit id, _, W' => Kept X W W' ∧ Ix (.exit id) k W'
  | .goto t, _, W' => Kept X W W' ∧ Ix (.goto t) k W'
  | .panic _, _, _ => False
  | .outgrown, _, _ => False
theorem postN_calm {X : Nat → Prop} {I : Nat → World → Prop} {Ix : Code → Nat → World → Prop} {k : Nat} {W : World} : ¬ LetsOut (postN X I Ix k W) := fun ⟨_, _, h⟩ => h

/-- the statement 'for x := range f' -/
theorem wp_range_n {g : Operand} {ps : Array Tmp} {assign body : Code} {Q : Exit → Act → World → Prop} {a : Act} {w : World}
    {gf : Nat} {lb : Array Value} (hg : a.eval g = .func (.func gf) #[] lb) (eg : ∀ args w, (callFunc gf args).run P w = .ok (.enter gf args) w)
    {cnt : Nat} {val : Nat → Array Value} (X : Nat → Prop) (hX : ∀ k, X k → k < w.heap.size)
    (hseq : HandsN P gf lb cnt val (fun k => X k ∨ k = w.heap.size ∨ k = w.heap.size + 1) w) (hps : ∀ k, (val k).size = ps.size)
    (I : Nat → World → Prop) (Ix : Code → Nat → World → Prop)
    (hI : ∀ k A B, I k A → Kept (fun b => w.heap.size ≤ b) A B → I k B)
    (hIx : ∀ c k A B, Ix c k A → Kept (fun b => w.heap.size ≤ b) A B → Ix c k B) (h0 : I 0 w) (a₁ : Nat → Act)
    (hassign : ∀ (l : Nat) (k : Nat) (W : World) (K : Act → World → Prop), K (a₁ k) W →
      assign.wpIn (Fence.wide.inRound l) 0 P (Exit.then K (fun _ _ _ => False)) { tmps := (ps.zip (val k)).foldl (fun t (p, v) => t.setIfInBounds p v) a.tmps, defers := [] } W)
    (hbody : ∀ (l : Nat) (k : Nat) (W : World), k < cnt → w.heap.size + 2 ≤ W.heap.size → I k W → body.wpIn (Fence.wide.inRound l) 0 P (postN X I Ix (k + 1) W) (a₁ k) W)
    (hdone : ∀ (W : World), I cnt W → W.heap[w.heap.size]? = some (.deferred (some [])) → Q .normal { a with defers := { target := .collected w.heap.size, args := #[] } :: a.defers } W)
    (hstop : ∀ (c : Code) (k : Nat) (W : World), k ≤ cnt → Ix c k W → W.heap[w.heap.size]? = some (.deferred (some [])) → c.wpIn Fence.wide 0 P Q { a with defers := { target := .collected w.heap.size, args := #[] } :: a.defers } W) :
    (Code.rangeFunc g ps assign body).wpIn Fence.wide 0 P Q a w := by
  refine wpIn_rangeFunc fun fn hfn => ?_
  have hro : (Fence.wide).round = none := rfl
  rw [hro]
  obtain ⟨rec, hrec⟩ : ∃ rec : LoopState → Option Code → Loop, rec = fun st pe => { state := st, pending := pe, fn, tmps := a.tmps, params := ps, assign, body, defers := w.heap.size } := ⟨_, rfl⟩
  obtain ⟨N, hN⟩ : ∃ N, N = w.heap.size := ⟨_, rfl⟩
  rw [← hN] at hX hseq hI hIx hbody hdone hstop hrec
  obtain ⟨W1, hW1⟩ : ∃ W1, (w.alloc (.deferred (some []))).alloc (.loop (rec .ready none)) = W1 := ⟨_, rfl⟩
  have hL1 : W1.heap[N + 1]? = some (.loop (rec .ready none)) := by
    rw [← hW1, hN]; have := World.alloc_heap_new (w.alloc (.deferred (some []))) (.loop (rec .ready none)); rwa [World.size_alloc] at this
  have hD1 : W1.heap[N]? = some (.deferred (some [])) := by
    rw [← hW1, hN]; exact (Below.heap_alloc _ _ _ (by simp)).trans (World.alloc_heap_new w _)
  have hb1 : Below w.heap.size w W1 := by rw [← hW1]; exact ((Below.refl _ w).alloc (Nat.le_refl _) _).alloc (by simp) _
  have hs1 : W1.heap.size = w.heap.size + 2 := by rw [← hW1]; simp
  have putI : ∀ {k : Nat} {A : World} {o : Obj}, I k A → I k (A.putObj (N + 1) o) := fun h => hI _ _ _ h (Kept.putGe _ _ _ (by omega))
  have putX : ∀ {c : Code} {k : Nat} {A : World} {o : Obj}, Ix c k A → Ix c k (A.putObj (N + 1) o) := fun h => hIx _ _ _ _ h (Kept.putGe _ _ _ (by omega))
  have more : ∀ {A B : World}, Kept (fun b => W1.heap.size ≤ b) A B → Kept (fun b => N ≤ b) A B := fun h => h.mono fun k e => by omega
  have far : ∀ {A B : World} {k : Nat} {o : Obj}, Kept (fun b => W1.heap.size ≤ b) A B → k ≤ N + 1 → A.heap[k]? = some o → B.heap[k]? = some o := fun h hk e =>
    (h.block _ (Array.getElem?_eq_some_iff.1 e).1 (by omega)).trans e
  refine ⟨N + 1, [{ target := .collected N, args := #[] }], W1, { target := .fn (.func gf) lb, args := #[.func (.yield (N + 1)) #[] #[]] }, W1, gf, #[.func (.yield (N + 1)) #[] #[]] ++ lb, W1, ?_, ?_, fun _ _ => trivial, ?_, fun h => (by cases h), ?_⟩
  · rw [← hW1, hrec, hN]; exact run_enterLoop_outer _ _ _ _ _
  · simp only [resolve, hg]
    simp [go_sem]
  · simp [invoke, go_sem, eg]
  · refine (hseq (N + 1)
      (fun k W => I k W ∧ W.heap[N + 1]? = some (.loop (rec .ready none)) ∧ W.heap[N]? = some (.deferred (some [])))
      (fun k W => ∃ c, Ix c k W ∧ W.heap[N + 1]? = some (.loop (rec .done (some c))) ∧ W.heap[N]? = some (.deferred (some [])))
      W1 hb1 (by omega) (fun k A B h hb => ⟨hI _ _ _ h.1 (more hb), far hb (by omega) h.2.1, far hb (by omega) h.2.2⟩)
      (fun k A B ⟨c, h1, h2, h3⟩ hb => ⟨c, hIx _ _ _ _ h1 (more hb), far hb (by omega) h2, far hb (by omega) h3⟩)
      ?_ ⟨hI _ _ _ h0 (Kept.of_below hb1), hL1, hD1⟩).mono ?_
    · rintro k W hkc ⟨hi, hl, hk⟩
      have hlt : N + 1 < W.heap.size := (Array.getElem?_eq_some_iff.1 hl).1
      have hy := run_yield (P := P) (args := val k) hl (by rw [hrec]; exact hps k)
      rw [hrec] at hy
      refine ⟨fn, _, assign, body, hy, roundIn_of_wpIn hfn (hassign _ k W _ ⟨_, run_beginRound hl (by rw [hrec]), ?_⟩)⟩
      obtain ⟨Wb, hWb⟩ : ∃ Wb, W.putObj (N + 1) (.loop { rec .ready none with state := .busy }) = Wb := ⟨_, rfl⟩
      have hl2 : Wb.heap[N + 1]? = some (.loop { rec .ready none with state := .busy }) := by rw [← hWb]; exact World.putObj_heap_same hlt
      have hk2 : Wb.heap[N]? = some (.deferred (some [])) := by rw [← hWb]; exact (World.putObj_heap_other (by omega)).trans hk
      have hK2 : Kept (fun k => k = N ∨ k = N + 1) W Wb := by rw [← hWb]; exact (Kept.put _ _ _).mono fun k e => .inr e
      rw [hWb]
      refine wpIn_mono (hbody _ k Wb hkc (by have := hK2.size; omega) (hI _ _ _ hi (hK2.mono fun k e => by omega))) ?_
      have fin : ∀ (jump : Option Code) (W3 : World), Kept X Wb W3 →
          (Instr.endRound (N + 1) jump).run P W3 = .ok (.bool jump.isNone) (W3.putObj (N + 1) (.loop (rec (if jump.isNone then .ready else .done) jump))) ∧
          (W3.putObj (N + 1) (.loop (rec (if jump.isNone then .ready else .done) jump))).heap[N + 1]? = some (.loop (rec (if jump.isNone then .ready else .done) jump)) ∧
          (W3.putObj (N + 1) (.loop (rec (if jump.isNone then .ready else .done) jump))).heap[N]? = some (.deferred (some [])) ∧
          Kept (fun k => X k ∨ k = N ∨ k = N + 1) W (W3.putObj (N + 1) (.loop (rec (if jump.isNone then .ready else .done) jump))) := fun jump W3 hk3 => by
        have hl3 : W3.heap[N + 1]? = some (.loop { rec .ready none with state := .busy }) := (hk3.block _ (Array.getElem?_eq_some_iff.1 hl2).1 fun e => by have := hX _ e; omega).trans hl2
        have hd3 : W3.heap[N]? = some (.deferred (some [])) := (hk3.block _ (Array.getElem?_eq_some_iff.1 hk2).1 fun e => by have := hX _ e; omega).trans hk2
        have := run_endRound (P := P) jump hl3
        rw [hrec] at this ⊢
        exact ⟨this, World.putObj_heap_same (Array.getElem?_eq_some_iff.1 hl3).1, (World.putObj_heap_other (by omega)).trans hd3,
          ((hK2.mono fun k e => .inr e).trans (hk3.mono fun k e => .inl e)).trans ((Kept.put _ _ _).mono fun k e => .inr (.inr e))⟩
      rintro e a3 W3 hp
      cases e with
      | normal =>
        obtain ⟨hk3, hi3⟩ := hp
        obtain ⟨hr, hl4, hk4, hK4⟩ := fin none W3 hk3
        exact ⟨_, _, hr, .inl ⟨rfl, ⟨putI hi3, hl4, hk4⟩, hK4⟩⟩
      | ret =>
        obtain ⟨hk3, hi3⟩ := hp
        obtain ⟨hr, hl4, hk4, hK4⟩ := fin (some .ret) W3 hk3
        exact ⟨_, _, hr, .inr ⟨rfl, ⟨.ret, putX hi3, hl4, hk4⟩, hK4⟩⟩
      | exit id =>
        obtain ⟨hk3, hi3⟩ := hp
        obtain ⟨hr, hl4, hk4, hK4⟩ := fin (some (.exit id)) W3 hk3
        exact ⟨_, _, hr, .inr ⟨rfl, ⟨.exit id, putX hi3, hl4, hk4⟩, hK4⟩⟩
      | goto t =>
        obtain ⟨hk3, hi3⟩ := hp
        obtain ⟨hr, hl4, hk4, hK4⟩ := fin (some (.goto t)) W3 hk3
        exact ⟨_, _, hr, .inr ⟨rfl, ⟨.goto t, putX hi3, hl4, hk4⟩, hK4⟩⟩
      | panic ch => exact hp.elim
      | outgrown => exact hp.elim
    · rintro e W2 ⟨⟨v, rfl⟩, (⟨hi, hl, hk⟩ | ⟨k, hkc, c, hi, hl, hk⟩)⟩
      · exact ⟨none, _, by have := run_endLoop (P := P) hl (by rw [hrec]; simp); rw [hrec] at this; exact this, hdone _ (putI hi) ((World.putObj_heap_other (by omega)).trans hk)⟩
      · exact ⟨some c, _, by have := run_endLoop (P := P) hl (by rw [hrec]; simp); rw [hrec] at this; exact this, hstop c k _ hkc (putX hi) ((World.putObj_heap_other (by omega)).trans hk)⟩

/-! ### Marks: loops over functions that ended, each with its block for deferred calls, which has none -/
def marks (ds : List Nat) : List Deferred := ds.map fun D => { target := .collected D, args := #[] }
/-- the marks' blocks lie from lo on, the later ones ahead, and have no calls -/
def MarksAt (lo : Nat) : List Nat → World → Prop
  | [], _ => True
  | D :: ds, W => lo ≤ D ∧ (∀ E ∈ ds, E < D) ∧ W.heap[D]? = some (.deferred (some [])) ∧ MarksAt lo ds W
theorem MarksAt.kept {lo : Nat} {X : Nat → Prop} : ∀ {ds : List Nat} {A B : World}, MarksAt lo ds A → Kept X A B → (∀ D ∈ ds, ¬ X D) → MarksAt lo ds B
  | [], _, _, _, _, _ => trivial
  | D :: ds, _, _, ⟨h1, h2, h3, h4⟩, hk, hx => ⟨h1, h2, (hk.block D (Array.getElem?_eq_some_iff.1 h3).1 (hx D (List.mem_cons_self ..))).trans h3, h4.kept hk fun E hE => hx E (List.mem_cons_of_mem _ hE)⟩
theorem MarksAt.lt {lo : Nat} : ∀ {ds : List Nat} {W : World}, MarksAt lo ds W → ∀ D ∈ ds, lo ≤ D ∧ D < W.heap.size
  | [], _, _, _, h => by cases h
  | D :: ds, _, ⟨h1, h2, h3, h4⟩, E, hE => by
    rcases List.mem_cons.1 hE with rfl | hE
    · exact ⟨h1, (Array.getElem?_eq_some_iff.1 h3).1⟩
    · exact h4.lt E hE
/-- a function leaves over its marks -/
theorem leaves_marks {fn : Func} {tmps : Array Value} {R : Ending → World → Prop} {lo : Nat} :
    ∀ (ds : List Nat) (W : World), MarksAt lo ds W → (∀ W', Kept (fun k => lo ≤ k) W W' → LeavesIn Fence.wide 0 P fn tmps R [] .returning W') → LeavesInM Fence.wide 0 P fn tmps R (marks ds) .returning W
  | [], W, _, h => h W (Kept.refl _ W)
  | D :: ds, W, ⟨h1, h2, h3, h4⟩, h => by
    refine ⟨by simp, .inl ⟨_, _, rfl, run_takeDeferred h3, ?_⟩⟩
    have hk : Kept (fun k => k = D) W (W.putObj D (.deferred none)) := Kept.put _ _ _
    refine leaves_marks ds _ (h4.kept hk fun E hE e => by have := h2 E hE; omega) fun W' hW' => h W' ((hk.mono fun k e => by omega).trans hW')
end
end Go.Proofs.YtdkhiooiakdecaaDoorR.Iter
