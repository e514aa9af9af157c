/- A law for a range over a function whose iterator hands over so many values, where who takes them has blocks of his own, to which he may add new ones. Marks of loops that ended. Nothing of the program. -/
import Derived.Test.YtakglldffpnlaaaGreatDoorIterLaw
namespace Go.Proofs.YtakglldffpnlaaaGreatDoor.Iter
set_option linter.all false
open Go.RowKit

section
variable {P : Program}

theorem Kept.putGe {N : Nat} (W : World) (l : Nat) (o : Obj) (h : N ≤ l) : Kept (fun b => N ≤ b) W (W.putObj l o) := (Kept.put W l o).mono fun k e => by omega
theorem Kept.alloc {X : Nat → Prop} (W : World) (o : Obj) : Kept X W (W.alloc o) := Kept.of_below ((Below.refl _ W).alloc (Nat.le_refl _) o)
theorem Kept.set {X : Nat → Prop} (W : World) (p : Addr) (v : Value) (h : X p.block) : Kept X W (W.setCell p v) :=
  ⟨rfl, rfl, rfl, by simp [World.setCell], fun k _ hx => Below.heap_setCell W p v k (by intro e; subst e; exact hx h)⟩
theorem Kept.drewN {X : Nat → Prop} (W : World) (n : Nat) : Kept X W (W.drewN n) := ⟨rfl, rfl, rfl, Nat.le_refl _, fun _ _ _ => rfl⟩

/-- an iterator's contract: it hands over val 0, val 1, .. val (cnt - 1); who takes them has blocks of his own, Y, which he may turn, and to which he may add what is new; the iterator turns none of them, and nothing that was there. -/
def HandsD (P : Program) (gf : FuncId) (lb : Array Value) (cnt : Nat) (val : Nat → Array Value) (X : Nat → Prop) (w : World) : Prop :=
  ∀ (l : Nat) (J Jx : Nat → (Nat → Prop) → World → Prop) (W : World) (Y0 : Nat → Prop), Below w.heap.size w W → W.heap.size = w.heap.size + 2 →
    (∀ k Y A B, J k Y A → Kept (fun b => W.heap.size ≤ b ∧ ¬ Y b) A B → J k Y B) →
    (∀ k Y A B, Jx k Y A → Kept (fun b => W.heap.size ≤ b ∧ ¬ Y b) A B → Jx k Y B) →
    (∀ k Y W1, k < cnt → J k Y W1 → YieldAt Fence.wide 0 P l (val k) W1 fun e W' => ∃ Y', (∀ b, Y' b → (Y b ∨ W1.heap.size ≤ b) ∧ b < W'.heap.size) ∧ Kept Y W1 W' ∧
      ((e = .returned (.bool true) ∧ J (k + 1) Y' W') ∨ (e = .returned (.bool false) ∧ Jx (k + 1) Y' W'))) →
    J 0 Y0 W → (∀ b, Y0 b → X b ∧ b < W.heap.size) →
    CallsIn Fence.wide 0 P gf (#[.func (.yield l) #[] #[]] ++ lb) W fun e W' => (∃ v, e = .returned v) ∧ ∃ Y, (J cnt Y W' ∨ ∃ k, k ≤ cnt ∧ Jx k Y W')

/-- how the body of a round may be left -/
def postD (Y : Nat → Prop) (I : Nat → (Nat → Prop) → World → Prop) (Ix : Code → Nat → (Nat → Prop) → World → Prop) (k : Nat) (W : World) : Exit → Act → World → Prop
  | .normal, _, W' => ∃ Y', (∀ b, Y' b → (Y b ∨ W.heap.size ≤ b) ∧ b < W'.heap.size) ∧ Kept Y W W' ∧ I k Y' W'
  | .ret, _, W' => ∃ Y', (∀ b, Y' b → (Y b ∨ W.heap.size ≤ b) ∧ b < W'.heap.size) ∧ Kept Y W W' ∧ Ix .ret k Y' W'
  | .exit id, _, W' => ∃ Y', (∀ b, Y' b → (Y b ∨ W.heap.size ≤ b) ∧ b < W'.heap.size) ∧ Kept Y W W' ∧ Ix (.exit id) k Y' W'
  | .goto t, _, W' => ∃ Y', (∀ b, Y' b → (Y b ∨ W.heap.size ≤ b) ∧ b < W'.heap.size) ∧ Kept Y W W' ∧ Ix (.goto t) k Y' W'
  | .panic _, _, _ => False
  | .outgrown, _, _ => False
theorem postD_calm {Y : Nat → Prop} {I : Nat → (Nat → Prop) → World → Prop} {Ix : Code → Nat → (Nat → Prop) → World → Prop} {k : Nat} {W : World} : ¬ LetsOut (postD Y I Ix k W) := fun ⟨_, _, h⟩ => h

/-- the statement 'for x := range f' -/
theorem wp_range_d {g : Operand} {ps : Array Tmp} {assign body : Code} {Q : Exit → Act → World → Prop} {a : Act} {w : World}
    {gf : Nat} {lb : Array Value} (hg : a.eval g = .func (.func gf) #[] lb) (eg : ∀ args w, (callFunc gf args).run P w = .ok (.enter gf args) w)
    {cnt : Nat} {val : Nat → Array Value} (X : Nat → Prop) (hX : ∀ k, X k → k < w.heap.size)
    (hseq : HandsD P gf lb cnt val (fun k => X k ∨ k = w.heap.size ∨ k = w.heap.size + 1) w) (hps : ∀ k, (val k).size = ps.size)
    (I : Nat → (Nat → Prop) → World → Prop) (Ix : Code → Nat → (Nat → Prop) → World → Prop)
    (hI : ∀ k Y A B, I k Y A → Kept (fun b => w.heap.size ≤ b ∧ ¬ Y b) A B → I k Y B)
    (hIx : ∀ c k Y A B, Ix c k Y A → Kept (fun b => w.heap.size ≤ b ∧ ¬ Y b) A B → Ix c k Y B) (h0 : I 0 X w) (a₁ : Nat → Act)
    (hassign : ∀ (l : Nat) (k : Nat) (W : World) (K : Act → World → Prop), K (a₁ k) W →
      assign.wpIn (Fence.wide.inRound l) 0 P (Exit.then K (fun _ _ _ => False)) { tmps := (ps.zip (val k)).foldl (fun t (p, v) => t.setIfInBounds p v) a.tmps, defers := [] } W)
    (hbody : ∀ (l : Nat) (k : Nat) (Y : Nat → Prop) (W : World), k < cnt → w.heap.size + 2 ≤ W.heap.size → (∀ b, Y b → b ≠ w.heap.size ∧ b ≠ w.heap.size + 1) → I k Y W → body.wpIn (Fence.wide.inRound l) 0 P (postD Y I Ix (k + 1) W) (a₁ k) W)
    (hdone : ∀ (Y : Nat → Prop) (W : World), I cnt Y W → W.heap[w.heap.size]? = some (.deferred (some [])) → (∀ b, Y b → b ≠ w.heap.size) → Q .normal { a with defers := { target := .collected w.heap.size, args := #[] } :: a.defers } W)
    (hstop : ∀ (c : Code) (k : Nat) (Y : Nat → Prop) (W : World), k ≤ cnt → Ix c k Y W → W.heap[w.heap.size]? = some (.deferred (some [])) → (∀ b, Y b → b ≠ w.heap.size) → c.wpIn Fence.wide 0 P Q { a with defers := { target := .collected w.heap.size, args := #[] } :: a.defers } W) :
    (Code.rangeFunc g ps assign body).wpIn Fence.wide 0 P Q a w := by
  refine wpIn_rangeFunc fun fn hfn => ?_
  have hro : (Fence.wide).round = none := rfl
  rw [hro]
  obtain ⟨rec, hrec⟩ : ∃ rec : LoopState → Option Code → Loop, rec = fun st pe => { state := st, pending := pe, fn, tmps := a.tmps, params := ps, assign, body, defers := w.heap.size } := ⟨_, rfl⟩
  obtain ⟨N, hN⟩ : ∃ N, N = w.heap.size := ⟨_, rfl⟩
  rw [← hN] at hX hseq hI hIx hbody hdone hstop hrec
  obtain ⟨W1, hW1⟩ : ∃ W1, (w.alloc (.deferred (some []))).alloc (.loop (rec .ready none)) = W1 := ⟨_, rfl⟩
  have hL1 : W1.heap[N + 1]? = some (.loop (rec .ready none)) := by
    rw [← hW1, hN]; have := World.alloc_heap_new (w.alloc (.deferred (some []))) (.loop (rec .ready none)); rwa [World.size_alloc] at this
  have hD1 : W1.heap[N]? = some (.deferred (some [])) := by
    rw [← hW1, hN]; exact (Below.heap_alloc _ _ _ (by simp)).trans (World.alloc_heap_new w _)
  have hb1 : Below w.heap.size w W1 := by rw [← hW1]; exact ((Below.refl _ w).alloc (Nat.le_refl _) _).alloc (by simp) _
  have hs1 : W1.heap.size = w.heap.size + 2 := by rw [← hW1]; simp
  have put1 : ∀ {Y : Nat → Prop} {A : World} {o : Obj}, (∀ b, Y b → b ≠ N ∧ b ≠ N + 1) → Kept (fun b => N ≤ b ∧ ¬ Y b) A (A.putObj (N + 1) o) := fun hy => (Kept.put _ _ _).mono fun k e => by subst e; exact ⟨by omega, fun h => (hy _ h).2 rfl⟩
  have far : ∀ {Y : Nat → Prop} {A B : World} {k : Nat} {o : Obj}, Kept (fun b => W1.heap.size ≤ b ∧ ¬ Y b) A B → k ≤ N + 1 → A.heap[k]? = some o → B.heap[k]? = some o := fun h hk e =>
    (h.block _ (Array.getElem?_eq_some_iff.1 e).1 (by omega)).trans e
  refine ⟨N + 1, [{ target := .collected N, args := #[] }], W1, { target := .fn (.func gf) lb, args := #[.func (.yield (N + 1)) #[] #[]] }, W1, gf, #[.func (.yield (N + 1)) #[] #[]] ++ lb, W1, ?_, ?_, fun _ _ => trivial, ?_, fun h => (by cases h), ?_⟩
  · rw [← hW1, hrec, hN]; exact run_enterLoop_outer _ _ _ _ _
  · simp only [resolve, hg]
    simp [go_sem]
  · simp [invoke, go_sem, eg]
  · refine (hseq (N + 1)
      (fun k Y W => ∃ Y', (∀ b, Y b ↔ Y' b ∨ b = N ∨ b = N + 1) ∧ (∀ b, Y' b → b ≠ N ∧ b ≠ N + 1) ∧ I k Y' W ∧ W.heap[N + 1]? = some (.loop (rec .ready none)) ∧ W.heap[N]? = some (.deferred (some [])))
      (fun k Y W => ∃ Y', (∀ b, Y b ↔ Y' b ∨ b = N ∨ b = N + 1) ∧ (∀ b, Y' b → b ≠ N ∧ b ≠ N + 1) ∧ ∃ c, Ix c k Y' W ∧ W.heap[N + 1]? = some (.loop (rec .done (some c))) ∧ W.heap[N]? = some (.deferred (some [])))
      W1 (fun b => X b ∨ b = N ∨ b = N + 1) hb1 (by omega)
      (by rintro k Y A B ⟨Y', y1, y2, h1, h2, h3⟩ hb; exact ⟨Y', y1, y2, hI _ _ _ _ h1 (hb.mono fun b e => ⟨by have := e.1; omega, fun h => e.2 ((y1 b).2 (.inl h))⟩), far hb (by omega) h2, far hb (by omega) h3⟩)
      (by rintro k Y A B ⟨Y', y1, y2, c, h1, h2, h3⟩ hb; exact ⟨Y', y1, y2, c, hIx _ _ _ _ _ h1 (hb.mono fun b e => ⟨by have := e.1; omega, fun h => e.2 ((y1 b).2 (.inl h))⟩), far hb (by omega) h2, far hb (by omega) h3⟩)
      ?_ ⟨X, fun b => Iff.rfl, fun b hb => by have := hX b hb; omega, hI _ _ _ _ h0 (Kept.of_below hb1), hL1, hD1⟩ (fun b hb => ⟨by rcases hb with h | h | h <;> simp [h, hN], by rcases hb with h | h | h; { have := hX b h; omega }; { omega }; { omega }⟩)).mono ?_
    · rintro k Y W hkc ⟨Y', y1, y2, hi, hl, hk⟩
      have hlt : N + 1 < W.heap.size := (Array.getElem?_eq_some_iff.1 hl).1
      have hy := run_yield (P := P) (args := val k) hl (by rw [hrec]; exact hps k)
      rw [hrec] at hy
      refine ⟨fn, _, assign, body, hy, roundIn_of_wpIn hfn (hassign _ k W _ ⟨_, run_beginRound hl (by rw [hrec]), ?_⟩)⟩
      obtain ⟨Wb, hWb⟩ : ∃ Wb, W.putObj (N + 1) (.loop { rec .ready none with state := .busy }) = Wb := ⟨_, rfl⟩
      have hl2 : Wb.heap[N + 1]? = some (.loop { rec .ready none with state := .busy }) := by rw [← hWb]; exact World.putObj_heap_same hlt
      have hk2 : Wb.heap[N]? = some (.deferred (some [])) := by rw [← hWb]; exact (World.putObj_heap_other (by omega)).trans hk
      have hsb : Wb.heap.size = W.heap.size := by rw [← hWb]; simp [World.putObj]
      have hK2 : Kept Y W Wb := by rw [← hWb]; exact (Kept.put _ _ _).mono fun k e => (y1 k).2 (.inr (.inr e))
      have hIb : I k Y' Wb := by rw [← hWb]; exact hI _ _ _ _ hi (put1 y2)
      rw [hWb]
      refine wpIn_mono (hbody _ k Y' Wb hkc (by omega) y2 hIb) ?_
      have fin : ∀ (jump : Option Code) (W3 : World) (Y'' : Nat → Prop), (∀ b, Y'' b → (Y' b ∨ Wb.heap.size ≤ b) ∧ b < W3.heap.size) → Kept Y' Wb W3 →
          (Instr.endRound (N + 1) jump).run P W3 = .ok (.bool jump.isNone) (W3.putObj (N + 1) (.loop (rec (if jump.isNone then .ready else .done) jump))) ∧
          (W3.putObj (N + 1) (.loop (rec (if jump.isNone then .ready else .done) jump))).heap[N + 1]? = some (.loop (rec (if jump.isNone then .ready else .done) jump)) ∧
          (W3.putObj (N + 1) (.loop (rec (if jump.isNone then .ready else .done) jump))).heap[N]? = some (.deferred (some [])) ∧
          Kept Y W (W3.putObj (N + 1) (.loop (rec (if jump.isNone then .ready else .done) jump))) ∧ (∀ b, Y'' b → b ≠ N ∧ b ≠ N + 1) ∧
          (∀ b, (Y'' b ∨ b = N ∨ b = N + 1) → (Y b ∨ W.heap.size ≤ b) ∧ b < (W3.putObj (N + 1) (.loop (rec (if jump.isNone then .ready else .done) jump))).heap.size) := fun jump W3 Y'' hy'' hk3 => by
        have hl3 : W3.heap[N + 1]? = some (.loop { rec .ready none with state := .busy }) := (hk3.block _ (Array.getElem?_eq_some_iff.1 hl2).1 fun e => (y2 _ e).2 rfl).trans hl2
        have hd3 : W3.heap[N]? = some (.deferred (some [])) := (hk3.block _ (Array.getElem?_eq_some_iff.1 hk2).1 fun e => (y2 _ e).1 rfl).trans hk2
        have := run_endRound (P := P) jump hl3
        rw [hrec] at this ⊢
        refine ⟨this, World.putObj_heap_same (Array.getElem?_eq_some_iff.1 hl3).1, (World.putObj_heap_other (by omega)).trans hd3,
          (hK2.trans (hk3.mono fun k e => (y1 k).2 (.inl e))).trans ((Kept.put _ _ _).mono fun k e => (y1 k).2 (.inr (.inr e))), fun b hb => ?_, fun b hb => ?_⟩
        · rcases (hy'' b hb).1 with h | h
          · exact y2 b h
          · omega
        · have hs8 : Wb.heap.size ≤ W3.heap.size := hk3.size
          have hz : ∀ (o : Obj), (W3.putObj (N + 1) o).heap.size = W3.heap.size := fun o => by simp [World.putObj]
          rcases hb with h | h | h
          · refine ⟨?_, by rw [hz]; exact (hy'' b h).2⟩
            rcases (hy'' b h).1 with h | h
            · exact .inl ((y1 b).2 (.inl h))
            · exact .inr (by omega)
          · exact ⟨.inl ((y1 b).2 (.inr (.inl h))), by rw [hz]; omega⟩
          · exact ⟨.inl ((y1 b).2 (.inr (.inr h))), by rw [hz]; omega⟩
      rintro e a3 W3 hp
      cases e with
      | normal =>
        obtain ⟨Y'', hy'', hk3, hi3⟩ := hp
        obtain ⟨hr, hl4, hk4, hK4, hy4, hy5⟩ := fin none W3 Y'' hy'' hk3
        exact ⟨_, _, hr, _, hy5, hK4, .inl ⟨rfl, Y'', fun b => Iff.rfl, hy4, hI _ _ _ _ hi3 (put1 hy4), hl4, hk4⟩⟩
      | ret =>
        obtain ⟨Y'', hy'', hk3, hi3⟩ := hp
        obtain ⟨hr, hl4, hk4, hK4, hy4, hy5⟩ := fin (some .ret) W3 Y'' hy'' hk3
        exact ⟨_, _, hr, _, hy5, hK4, .inr ⟨rfl, Y'', fun b => Iff.rfl, hy4, .ret, hIx _ _ _ _ _ hi3 (put1 hy4), hl4, hk4⟩⟩
      | exit id =>
        obtain ⟨Y'', hy'', hk3, hi3⟩ := hp
        obtain ⟨hr, hl4, hk4, hK4, hy4, hy5⟩ := fin (some (.exit id)) W3 Y'' hy'' hk3
        exact ⟨_, _, hr, _, hy5, hK4, .inr ⟨rfl, Y'', fun b => Iff.rfl, hy4, .exit id, hIx _ _ _ _ _ hi3 (put1 hy4), hl4, hk4⟩⟩
      | goto t =>
        obtain ⟨Y'', hy'', hk3, hi3⟩ := hp
        obtain ⟨hr, hl4, hk4, hK4, hy4, hy5⟩ := fin (some (.goto t)) W3 Y'' hy'' hk3
        exact ⟨_, _, hr, _, hy5, hK4, .inr ⟨rfl, Y'', fun b => Iff.rfl, hy4, .goto t, hIx _ _ _ _ _ hi3 (put1 hy4), hl4, hk4⟩⟩
      | panic ch => exact hp.elim
      | outgrown => exact hp.elim
    · rintro e W2 ⟨⟨v, rfl⟩, Y, (⟨Y', y1, y2, hi, hl, hk⟩ | ⟨k, hkc, Y', y1, y2, c, hi, hl, hk⟩)⟩
      · exact ⟨none, _, by have := run_endLoop (P := P) hl (by rw [hrec]; simp); rw [hrec] at this; exact this, hdone _ _ (hI _ _ _ _ hi (put1 y2)) ((World.putObj_heap_other (by omega)).trans hk) fun b hb => (y2 b hb).1⟩
      · exact ⟨some c, _, by have := run_endLoop (P := P) hl (by rw [hrec]; simp); rw [hrec] at this; exact this, hstop c k _ _ hkc (hIx _ _ _ _ _ hi (put1 y2)) ((World.putObj_heap_other (by omega)).trans hk) fun b hb => (y2 b hb).1⟩

/-! ### Marks: loops over functions that ended, each with its block for deferred calls, which has none -/
def marks (ds : List Nat) : List Deferred := ds.map fun D => { target := .collected D, args := #[] }
/-- the marks' blocks lie from lo on, the later ones ahead, and have no calls -/
def MarksAt (lo : Nat) : List Nat → World → Prop
  | [], _ => True
  | D :: ds, W => lo ≤ D ∧ (∀ E ∈ ds, E < D) ∧ W.heap[D]? = some (.deferred (some [])) ∧ MarksAt lo ds W
theorem MarksAt.kept {lo : Nat} {X : Nat → Prop} : ∀ {ds : List Nat} {A B : World}, MarksAt lo ds A → Kept X A B → (∀ D ∈ ds, ¬ X D) → MarksAt lo ds B
  | [], _, _, _, _, _ => trivial
  | D :: ds, _, _, ⟨h1, h2, h3, h4⟩, hk, hx => ⟨h1, h2, (hk.block D (Array.getElem?_eq_some_iff.1 h3).1 (hx D (List.mem_cons_self ..))).trans h3, h4.kept hk fun E hE => hx E (List.mem_cons_of_mem _ hE)⟩
theorem MarksAt.lt {lo : Nat} : ∀ {ds : List Nat} {W : World}, MarksAt lo ds W → ∀ D ∈ ds, lo ≤ D ∧ D < W.heap.size
  | [], _, _, _, h => by cases h
  | D :: ds, _, ⟨h1, h2, h3, h4⟩, E, hE => by
    rcases List.mem_cons.1 hE with rfl | hE
    · exact ⟨h1, (Array.getElem?_eq_some_iff.1 h3).1⟩
    · exact h4.lt E hE
/-- a function leaves over its marks -/
theorem leaves_marks {fn : Func} {tmps : Array Value} {R : Ending → World → Prop} {lo : Nat} :
    ∀ (ds : List Nat) (W : World), MarksAt lo ds W → (∀ W', Kept (fun k => lo ≤ k) W W' → LeavesIn Fence.wide 0 P fn tmps R [] .returning W') → LeavesInM Fence.wide 0 P fn tmps R (marks ds) .returning W
  | [], W, _, h => h W (Kept.refl _ W)
  | D :: ds, W, ⟨h1, h2, h3, h4⟩, h => by
    refine ⟨by simp, .inl ⟨_, _, rfl, run_takeDeferred h3, ?_⟩⟩
    have hk : Kept (fun k => k = D) W (W.putObj D (.deferred none)) := Kept.put _ _ _
    refine leaves_marks ds _ (h4.kept hk fun E hE e => by have := h2 E hE; omega) fun W' hW' => h W' ((hk.mono fun k e => by omega).trans hW')
/-- .. and turns nothing but them -/
theorem leaves_marks2 {fn : Func} {tmps : Array Value} {R : Ending → World → Prop} {lo : Nat} :
    ∀ (ds : List Nat) (W : World), MarksAt lo ds W → (∀ W', Kept (fun k => k ∈ ds) W W' → LeavesIn Fence.wide 0 P fn tmps R [] .returning W') → LeavesInM Fence.wide 0 P fn tmps R (marks ds) .returning W
  | [], W, _, h => h W (Kept.refl _ W)
  | D :: ds, W, ⟨h1, h2, h3, h4⟩, h => by
    refine ⟨by simp, .inl ⟨_, _, rfl, run_takeDeferred h3, ?_⟩⟩
    have hk : Kept (fun k => k = D) W (W.putObj D (.deferred none)) := Kept.put _ _ _
    refine leaves_marks2 ds _ (h4.kept hk fun E hE e => by have := h2 E hE; omega) fun W' hW' => h W' ((hk.mono fun k e => by subst e; exact List.mem_cons_self ..).trans (hW'.mono fun k e => List.mem_cons_of_mem _ e))
end
end Go.Proofs.YtakglldffpnlaaaGreatDoor.Iter
