/- Walks: Derive, the program's and the document's. Written by tools/mk_scwalkc.py. -/
import Derived.Test.YtikafijdfgkgkaaDoorScWalkB
namespace Go.Proofs.YtikafijdfgkgkaaDoor.Sc
set_option linter.all false
open Go.RowKit
open Wr (Txt TxtL Any New bcells gt byteRow)

/-- an epoch's seven slices -/
structure Q7 where
  A0 : Option Addr
  n0 : Nat
  c0 : Nat
  A1 : Option Addr
  n1 : Nat
  c1 : Nat
  A2 : Option Addr
  n2 : Nat
  c2 : Nat
  A3 : Option Addr
  n3 : Nat
  c3 : Nat
  A4 : Option Addr
  n4 : Nat
  c4 : Nat
  A5 : Option Addr
  n5 : Nat
  c5 : Nat
  A6 : Option Addr
  n6 : Nat
  c6 : Nat
/-- they hold an epoch's keys -/
structure EpIs (S : Nat → Prop) (w : World) (q : Q7) (e : Ep) : Prop where
  t0 : Txt S w q.A0 q.n0 q.c0 e.wel
  t1 : Txt S w q.A1 q.n1 q.c1 e.sec
  t2 : Txt S w q.A2 q.n2 q.c2 e.enc
  t3 : Txt S w q.A3 q.n3 q.c3 e.exp
  t4 : Txt S w q.A4 q.n4 q.c4 e.con
  t5 : Txt S w q.A5 q.n5 q.c5 e.mem
  t6 : Txt S w q.A6 q.n6 q.c6 e.ini
theorem EpIs.mono {S S' : Nat → Prop} {w : World} {q : Q7} {e : Ep} (h : EpIs S w q e) (hS : ∀ b, S b → S' b) : EpIs S' w q e := ⟨h.t0.mono hS, h.t1.mono hS, h.t2.mono hS, h.t3.mono hS, h.t4.mono hS, h.t5.mono hS, h.t6.mono hS⟩
theorem EpIs.below {S : Nat → Prop} {w w' : World} {q : Q7} {e : Ep} (h : EpIs S w q e) (hb : Below w.heap.size w w') : EpIs S w' q e := ⟨h.t0.below hb, h.t1.below hb, h.t2.below hb, h.t3.below hb, h.t4.below hb, h.t5.below hb, h.t6.below hb⟩
theorem EpIs.any {S : Nat → Prop} {w : World} {q : Q7} {e : Ep} (h : EpIs S w q e) : EpIs Any w q e := h.mono fun _ _ => True.intro
theorem ep_wel (jj x : List Nat) : (ep jj x).wel = lb (fst jj) ⟨#[119, 101, 108, 99, 111, 109, 101]⟩ [] := by delta ep; dsimp only
theorem ep_sec (jj x : List Nat) : (ep jj x).sec = sec jj x := by delta ep; dsimp only
theorem ep_enc (jj x : List Nat) : (ep jj x).enc = lb (sec jj x) ⟨#[101, 110, 99, 114, 121, 112, 116]⟩ [] := by delta ep; dsimp only
theorem ep_exp (jj x : List Nat) : (ep jj x).exp = lb (sec jj x) ⟨#[101, 120, 112, 111, 114, 116]⟩ [] := by delta ep; dsimp only
theorem ep_con (jj x : List Nat) : (ep jj x).con = lb (sec jj x) ⟨#[99, 111, 110, 102, 105, 114, 109]⟩ [] := by delta ep; dsimp only
theorem ep_mem (jj x : List Nat) : (ep jj x).mem = lb (sec jj x) ⟨#[109, 101, 109, 98, 101, 114]⟩ [] := by delta ep; dsimp only
theorem ep_ini (jj x : List Nat) : (ep jj x).ini = lb (sec jj x) ⟨#[105, 110, 105, 116]⟩ [] := by delta ep; dsimp only
theorem ep_is {w : World} {S : Nat → Prop} {jj x : List Nat} {P0 : Option Addr} {p0 u0 : Nat} {P1 : Option Addr} {p1 u1 : Nat} {P2 : Option Addr} {p2 u2 : Nat} {P3 : Option Addr} {p3 u3 : Nat} {P4 : Option Addr} {p4 u4 : Nat} {P5 : Option Addr} {p5 u5 : Nat} {P6 : Option Addr} {p6 u6 : Nat} (h0 : Txt S w P0 p0 u0 (lb (fst jj) ⟨#[119, 101, 108, 99, 111, 109, 101]⟩ [])) (h1 : Txt S w P1 p1 u1 (sec jj x)) (h2 : Txt S w P2 p2 u2 (lb (sec jj x) ⟨#[101, 110, 99, 114, 121, 112, 116]⟩ [])) (h3 : Txt S w P3 p3 u3 (lb (sec jj x) ⟨#[101, 120, 112, 111, 114, 116]⟩ [])) (h4 : Txt S w P4 p4 u4 (lb (sec jj x) ⟨#[99, 111, 110, 102, 105, 114, 109]⟩ [])) (h5 : Txt S w P5 p5 u5 (lb (sec jj x) ⟨#[109, 101, 109, 98, 101, 114]⟩ [])) (h6 : Txt S w P6 p6 u6 (lb (sec jj x) ⟨#[105, 110, 105, 116]⟩ [])) :
    EpIs S w ⟨P0, p0, u0, P1, p1, u1, P2, p2, u2, P3, p3, u3, P4, p4, u4, P5, p5, u5, P6, p6, u6⟩ (ep jj x) := ⟨(by rw [ep_wel]; exact h0), (by rw [ep_sec]; exact h1), (by rw [ep_enc]; exact h2), (by rw [ep_exp]; exact h3), (by rw [ep_con]; exact h4), (by rw [ep_mem]; exact h5), (by rw [ep_ini]; exact h6)⟩
theorem EpIs.grown {lo g : Nat} {w w' : World} {q : Q7} {e : Ep} (h : EpIs (New lo w) w q e) (hk : w.grownBy w' (some g)) (hg : g < lo) : EpIs (New lo w') w' q e :=
  ⟨new_grown h.t0 hk hg, new_grown h.t1 hk hg, new_grown h.t2 hk hg, new_grown h.t3 hk hg, new_grown h.t4 hk hg, new_grown h.t5 hk hg, new_grown h.t6 hk hg⟩
/-- a row of seven values -/
def row7 (a b c d e f g : Value) : Nat → Value := fun i => match i with | 0 => a | 1 => b | 2 => c | 3 => d | 4 => e | 5 => f | _ => g
def Row7 (w : World) (g : Nat) (a0 a1 a2 a3 a4 a5 a6 : Value) : Prop := w.rowIs g 28 7 (row7 a0 a1 a2 a3 a4 a5 a6)
theorem Row7.cs {w : World} {g : Nat} {a0 a1 a2 a3 a4 a5 a6 : Value} (h : Row7 w g a0 a1 a2 a3 a4 a5 a6) : w.cell? ⟨g, 0, none⟩ = some a0 ∧ w.cell? ⟨g, 1, none⟩ = some a1 ∧ w.cell? ⟨g, 2, none⟩ = some a2 ∧ w.cell? ⟨g, 3, none⟩ = some a3 ∧ w.cell? ⟨g, 4, none⟩ = some a4 ∧ w.cell? ⟨g, 5, none⟩ = some a5 ∧ w.cell? ⟨g, 6, none⟩ = some a6 :=
  ⟨World.rowIs.cell h (i := 0) (by omega), World.rowIs.cell h (i := 1) (by omega), World.rowIs.cell h (i := 2) (by omega), World.rowIs.cell h (i := 3) (by omega), World.rowIs.cell h (i := 4) (by omega), World.rowIs.cell h (i := 5) (by omega), World.rowIs.cell h (i := 6) (by omega)⟩
theorem seven {P : Nat → Prop} (h0 : P 0) (h1 : P 1) (h2 : P 2) (h3 : P 3) (h4 : P 4) (h5 : P 5) (h6 : P 6) : ∀ i, i < 7 → P i := by
  intro i hi
  match i, hi with
  | 0, _ => exact h0
  | 1, _ => exact h1
  | 2, _ => exact h2
  | 3, _ => exact h3
  | 4, _ => exact h4
  | 5, _ => exact h5
  | 6, _ => exact h6
  | k + 7, h => omega
theorem Row7.new (w : World) (a0 a1 a2 a3 a4 a5 a6 : Value) : Row7 (w.alloc (.cells #[a0, a1, a2, a3, a4, a5, a6] 28)) w.heap.size a0 a1 a2 a3 a4 a5 a6 :=
  ⟨_, heap_alloc_last w _, rfl, seven rfl rfl rfl rfl rfl rfl rfl⟩
theorem Row7.heap {w : World} {g : Nat} {a0 a1 a2 a3 a4 a5 a6 : Value} (h : Row7 w g a0 a1 a2 a3 a4 a5 a6) : w.heap[g]? = some (.cells #[a0, a1, a2, a3, a4, a5, a6] 28 (0, 0)) := by
  obtain ⟨c, hb, hn, hc⟩ := h
  have e : c = #[a0, a1, a2, a3, a4, a5, a6] := by
    apply Array.ext_getElem?
    intro i
    by_cases hi : i < 7
    · rw [hc i hi]
      exact seven (P := fun i => some (row7 a0 a1 a2 a3 a4 a5 a6 i) = #[a0, a1, a2, a3, a4, a5, a6][i]?) rfl rfl rfl rfl rfl rfl rfl i hi
    · rw [Array.getElem?_eq_none (by omega), Array.getElem?_eq_none (by simpa using hi)]
  rw [hb, e]
theorem epoch_size : (Tryd.prog.info? 28).map (·.size) = some 7 := by kernel_rfl
theorem Row7.of_block {w w' : World} {g : Nat} {a0 a1 a2 a3 a4 a5 a6 : Value} (h : Row7 w g a0 a1 a2 a3 a4 a5 a6) (e : w'.heap[g]? = w.heap[g]?) : Row7 w' g a0 a1 a2 a3 a4 a5 a6 := World.rowIs.of_block h e
theorem Row7.lt {w : World} {g : Nat} {a0 a1 a2 a3 a4 a5 a6 : Value} (h : Row7 w g a0 a1 a2 a3 a4 a5 a6) : g < w.heap.size := World.rowIs.lt h
theorem Row7.below {w w' : World} {g B : Nat} {a0 a1 a2 a3 a4 a5 a6 : Value} (h : Row7 w g a0 a1 a2 a3 a4 a5 a6) (hb : Below B w w') (hg : g < B) : Row7 w' g a0 a1 a2 a3 a4 a5 a6 := h.of_block (hb.block g hg)
/-- left in the ordinary way -/
def norm (P : Act → World → Prop) : Exit → Act → World → Prop
  | .normal, a, w => P a w
  | .ret, _, _ => False
  | .exit _, _, _ => False
  | .goto _, _, _ => False
  | .panic _, _, _ => False
  | .outgrown, _, _ => False
theorem norm_of {P : Act → World → Prop} {e : Exit} {a : Act} {w : World} (h : norm P e a w) : e = .normal ∧ P a w := by
  cases e <;> first | exact ⟨rfl, h⟩ | exact (h : False).elim
/-- the rest of a walk, once for all ways through a piece of code that ends in the ordinary way -/
theorem wp_cut {P : Program} {c : Code} {Q : Exit → Act → World → Prop} {a : Act} {w : World} {X : Type} (F : Act → X → Act) (R : X → World → Prop) (h : c.wp P (norm fun a' W => ∃ x, a' = F a x ∧ R x W) a w) (k : ∀ x W, R x W → Q .normal (F a x) W) : c.wp P Q a w :=
  Code.wp_mono (fun e a' w' h => by
    obtain ⟨rfl, x, rfl, hR⟩ := norm_of h
    exact k x w' hR) h
theorem made_run (W : World) : (Instr.makeSlice 22 (.int .i64 32) (.int .i64 32)).run Tryd.prog W = .ok (.slice (some ⟨W.heap.size, 0, none⟩) 32 32) (W.alloc (.cells (madeCells #[.int .u8 0] 32) 5)) :=
  run_make_row' 22 5 (.int .u8 0) 1 (by kernel_rfl) (by kernel_rfl) rfl .i64 .i64 32 (by decide) (by decide) W
theorem gt_zs (j : Nat) : gt zs j = 0 := by
  unfold zs Wr.gt
  rw [List.getD_eq_getElem?_getD, List.getElem?_replicate]; split <;> rfl
theorem made_txt (W : World) : Txt Any (W.alloc (.cells (madeCells #[.int .u8 0] 32) 5)) (some ⟨W.heap.size, 0, none⟩) 32 32 zs := by
  refine (Txt.of_row (base := 0) (h := W.heap.size) ?_ zs_len zs_lt (Nat.zero_le _) (by decide)).any
  refine (World.rowIs_made W (.int .u8 0) 32 5).congr fun i hi => ?_
  show _ = Value.int .u8 ((gt zs i : Nat) : Int)
  rw [gt_zs]; rfl
/-- one key is put -/
theorem put_one (K X : Option Addr) (key x : List Nat) (nk ck nx cx o g : Nat) (s : ByteArray) (f : Nat → Value) (w : World) (hT : Tabs w) (hgG : 3 ≤ g)
    (hK : Far g w K nk ck key) (hX : Far g w X nx cx x) (hnk : nk ≤ 100000) (hF : w.rowIs g 28 7 f) (ho : o < 7) :
    Calls Tryd.prog 28 #[.slice K nk ck, .slice X nx cx, .slice (some ⟨w.heap.size, 0, none⟩) 1 1] (w.alloc (.cells #[.string s, .pointer (some ⟨g, o, none⟩)] 42)) fun e w' =>
      e = .returned (.tuple #[]) ∧ w.grownBy w' (some g) ∧ ∃ A n c f', w'.rowIs g 28 7 f' ∧ (∀ i, i < 7 → i ≠ o → f' i = f i) ∧ f' o = .slice A n c ∧ Txt (New w.heap.size w') w' A n c (lb key s x) := by
  have ba := (Below.refl w.heap.size w).alloc (Nat.le_refl _) (.cells #[.string s, .pointer (some ⟨g, o, none⟩)] 42)
  have hgl := hF.lt
  refine (put_any K X key x nk ck nx cx o 1 1 g w.heap.size [s] f _ (hT.at ba) hgG (hK.below ba) (hX.below ba) hnk (hF.of_block (ba.block g hgl)) (by omega) (by omega) (by omega) (by omega) ?_).mono ?_
  · intro j hj
    obtain rfl : j = 0 := by omega
    exact ⟨by rw [cell_of_row _ _ (0 * 2) _ _ (0, 0) (heap_alloc_last w _)]; rfl, by rw [cell_of_row _ _ (0 * 2 + 1) _ _ (0, 0) (heap_alloc_last w _)]; rfl⟩
  · rintro e w' ⟨he, hg, f', h1, h2, h3⟩
    obtain ⟨A, n, c, e1, e2⟩ := h3 0 (by omega)
    exact ⟨he, grown_trans (grown_of_below ba) hg, A, n, c, f', h1, fun i hi hn => h2 i hi (by omega), e1, e2.mono fun b hb => ⟨by have := hb.1; have := ba.size; omega, hb.2⟩⟩
/-- five keys are put -/
theorem put_five (K X : Option Addr) (key x : List Nat) (nk ck nx cx g : Nat) (s0 s1 s2 s3 s4 : ByteArray) (f : Nat → Value) (w : World) (hT : Tabs w) (hgG : 3 ≤ g)
    (hK : Far g w K nk ck key) (hX : Far g w X nx cx x) (hnk : nk ≤ 100000) (hF : w.rowIs g 28 7 f) :
    Calls Tryd.prog 28 #[.slice K nk ck, .slice X nx cx, .slice (some ⟨w.heap.size, 0, none⟩) 5 5] (w.alloc (.cells #[.string s0, .pointer (some ⟨g, 2, none⟩), .string s1, .pointer (some ⟨g, 3, none⟩), .string s2, .pointer (some ⟨g, 4, none⟩), .string s3, .pointer (some ⟨g, 5, none⟩), .string s4, .pointer (some ⟨g, 6, none⟩)] 42)) fun e w' =>
      e = .returned (.tuple #[]) ∧ w.grownBy w' (some g) ∧ ∃ f', w'.rowIs g 28 7 f' ∧ (∀ i, i < 2 → f' i = f i) ∧
        (∃ A n c, f' 2 = .slice A n c ∧ Txt (New w.heap.size w') w' A n c (lb key s0 x)) ∧ (∃ A n c, f' 3 = .slice A n c ∧ Txt (New w.heap.size w') w' A n c (lb key s1 x)) ∧ (∃ A n c, f' 4 = .slice A n c ∧ Txt (New w.heap.size w') w' A n c (lb key s2 x)) ∧
        (∃ A n c, f' 5 = .slice A n c ∧ Txt (New w.heap.size w') w' A n c (lb key s3 x)) ∧ (∃ A n c, f' 6 = .slice A n c ∧ Txt (New w.heap.size w') w' A n c (lb key s4 x)) := by
  generalize hcs : #[Value.string s0, .pointer (some ⟨g, 2, none⟩), .string s1, .pointer (some ⟨g, 3, none⟩), .string s2, .pointer (some ⟨g, 4, none⟩), .string s3, .pointer (some ⟨g, 5, none⟩), .string s4, .pointer (some ⟨g, 6, none⟩)] = cs
  have ba := (Below.refl w.heap.size w).alloc (Nat.le_refl _) (.cells cs 42)
  have hgl := hF.lt
  refine (put_any K X key x nk ck nx cx 2 5 5 g w.heap.size [s0, s1, s2, s3, s4] f _ (hT.at ba) hgG (hK.below ba) (hX.below ba) hnk (hF.of_block (ba.block g hgl)) (by omega) (by omega) (by omega) (by omega) ?_).mono ?_
  · subst hcs
    intro j hj
    match j, hj with
    | 0, _ => exact ⟨by rw [cell_of_row _ _ (0 * 2) _ _ (0, 0) (heap_alloc_last w _)]; rfl, by rw [cell_of_row _ _ (0 * 2 + 1) _ _ (0, 0) (heap_alloc_last w _)]; rfl⟩
    | 1, _ => exact ⟨by rw [cell_of_row _ _ (1 * 2) _ _ (0, 0) (heap_alloc_last w _)]; rfl, by rw [cell_of_row _ _ (1 * 2 + 1) _ _ (0, 0) (heap_alloc_last w _)]; rfl⟩
    | 2, _ => exact ⟨by rw [cell_of_row _ _ (2 * 2) _ _ (0, 0) (heap_alloc_last w _)]; rfl, by rw [cell_of_row _ _ (2 * 2 + 1) _ _ (0, 0) (heap_alloc_last w _)]; rfl⟩
    | 3, _ => exact ⟨by rw [cell_of_row _ _ (3 * 2) _ _ (0, 0) (heap_alloc_last w _)]; rfl, by rw [cell_of_row _ _ (3 * 2 + 1) _ _ (0, 0) (heap_alloc_last w _)]; rfl⟩
    | 4, _ => exact ⟨by rw [cell_of_row _ _ (4 * 2) _ _ (0, 0) (heap_alloc_last w _)]; rfl, by rw [cell_of_row _ _ (4 * 2 + 1) _ _ (0, 0) (heap_alloc_last w _)]; rfl⟩
    | k + 5, h => omega
  · rintro e w' ⟨he, hg, f', h1, h2, h3⟩
    have hm : ∀ {A n c bs}, Txt (New (w.alloc (.cells cs 42)).heap.size w') w' A n c bs → Txt (New w.heap.size w') w' A n c bs := fun h => h.mono fun b hb => ⟨by have := hb.1; have := ba.size; omega, hb.2⟩
    have hk : ∀ i, i < 5 → ∃ A n c, f' (2 + i) = .slice A n c ∧ Txt (New w.heap.size w') w' A n c (lb key ([s0, s1, s2, s3, s4].getD i ByteArray.empty) x) := fun i hi => by
      obtain ⟨A, n, c, e1, e2⟩ := h3 i hi
      exact ⟨A, n, c, e1, hm e2⟩
    exact ⟨he, grown_trans (grown_of_below ba) hg, f', h1, fun i hi => h2 i (by omega) (by omega), hk 0 (by omega), hk 1 (by omega), hk 2 (by omega), hk 3 (by omega), hk 4 (by omega)⟩

set_option maxHeartbeats 8000000 in
set_option maxRecDepth 100000 in
theorem derive_any (A C : Option Addr) (jj x : List Nat) (n1 c1 n2 c2 : Nat) (w : World) (hT : Tabs w) (hJ : Txt Any w A n1 c1 jj) (hC : Txt Any w C n2 c2 x) (hm1 : n1 ≤ 1000000) (hm2 : n2 ≤ 1000000) :
    Calls Tryd.prog 13 #[.slice A n1 c1, .slice C n2 c2] w fun e w' => ∃ q : Q7, e = .returned (.agg #[.slice q.A0 q.n0 q.c0, .slice q.A1 q.n1 q.c1, .slice q.A2 q.n2 q.c2, .slice q.A3 q.n3 q.c3, .slice q.A4 q.n4 q.c4, .slice q.A5 q.n5 q.c5, .slice q.A6 q.n6 q.c6]) ∧ EpIs (New w.heap.size w') w' q (ep jj x) ∧ Below w.heap.size w w' := by
  have hG := hT.big
  have b1 := (Below.refl w.heap.size w).alloc (Nat.le_refl _) (.cells #[.slice none 0 0, .slice none 0 0, .slice none 0 0, .slice none 0 0, .slice none 0 0, .slice none 0 0, .slice none 0 0] 28)
  have r1 := Row7.new w (.slice none 0 0) (.slice none 0 0) (.slice none 0 0) (.slice none 0 0) (.slice none 0 0) (.slice none 0 0) (.slice none 0 0)
  obtain ⟨wa, hwa⟩ : ∃ W, w.alloc (.cells #[.slice none 0 0, .slice none 0 0, .slice none 0 0, .slice none 0 0, .slice none 0 0, .slice none 0 0, .slice none 0 0] 28) = W := ⟨_, rfl⟩
  have r2 := Row7.new wa (.slice none 0 0) (.slice none 0 0) (.slice none 0 0) (.slice none 0 0) (.slice none 0 0) (.slice none 0 0) (.slice none 0 0)
  rw [hwa] at b1 r1
  have b2 := (Below.refl wa.heap.size wa).alloc (Nat.le_refl _) (.cells #[.slice none 0 0, .slice none 0 0, .slice none 0 0, .slice none 0 0, .slice none 0 0, .slice none 0 0, .slice none 0 0] 28)
  have r1b := r1.below b2 r1.lt
  obtain ⟨wb, hwb⟩ : ∃ W, wa.alloc (.cells #[.slice none 0 0, .slice none 0 0, .slice none 0 0, .slice none 0 0, .slice none 0 0, .slice none 0 0, .slice none 0 0] 28) = W := ⟨_, rfl⟩
  rw [hwb] at r2 b2 r1b
  have hga : w.heap.size < wa.heap.size := r1.lt
  have BB : Hid (Below w.heap.size w wb.drew) := Lib.hid (b1.trans (b2.mono b1.size)).drew
  have HTd : Hid (Tabs wb.drew) := Lib.hid (hT.at BB.out)
  have HJd : Hid (Txt Any wb.drew A n1 c1 jj) := Lib.hid (hJ.below BB.out)
  have HCd : Hid (Far wa.heap.size wb.drew C n2 c2 x) := Lib.hid ((Far.old hC (Nat.le_of_lt hga)).below BB.out)
  have R1 : Hid (Row7 wb.drew w.heap.size _ _ _ _ _ _ _) := Lib.hid r1b
  have R2 : Hid (Row7 wb.drew wa.heap.size _ _ _ _ _ _ _) := Lib.hid r2
  have HGB : Hid (wa.heap.size < wb.drew.heap.size) := Lib.hid r2.lt
  clear r1 r2 r1b b1 b2 hT hJ hC
  go_enter Tryd.func13, Tryd.ntmps13
  go_wp2_with fail
  refine wp_cut (fun a (x : Option Addr × Nat × Nat × Option Addr × Nat × Nat × Nat) => { tmps := (((((a.tmps.setIfInBounds 7 (.slice A n1 c1)).setIfInBounds 8 (.slice x.1 x.2.1 x.2.2.1)).setIfInBounds 9 (.slice (some ⟨x.2.2.2.2.2.2, 0, none⟩) 32 32)).setIfInBounds 10 (.slice x.2.2.2.1 x.2.2.2.2.1 x.2.2.2.2.2.1)).setIfInBounds 6 (.slice x.2.2.2.1 x.2.2.2.2.1 x.2.2.2.2.2.1)), defers := a.defers })
    (fun x W => Hid (Txt (fun b => wb.drew.heap.size ≤ b) W x.2.2.2.1 x.2.2.2.2.1 x.2.2.2.2.2.1 (fst jj) ∧ Below wb.drew.heap.size wb.drew W)) ?_ ?_
  case refine_1 =>
    try simp only [Act.put]
    refine Wr.region_calm ?_
    refine wp_region_any (by kernel_rfl) ?_
    change wpAny _ _ _ _ _ _ _ (World.drew wb)
    have HSwd : Hid (Below (World.drew wb).heap.size (World.drew wb) (World.drew wb)) := Lib.hid (Below.refl _ _)
    generalize World.drew wb = wd at *
    refine wpAny_of_held (S := fun W => Below wd.heap.size wd W) _ _ _ _ ?_
    refine wpAnyH_take (i := 0) (v := ?ve1) rfl (by kernel_rfl) (by kernel_rfl) (by kernel_rfl) (fun _ _ _ h => h) (Or.inl ⟨by rfl, ?ye1⟩) HSwd.out ?re1
    case ye1 => (intro w' hSw; clear hSw; go_simp; try with_reducible rfl)
    simp only [List.getElem_toArray, List.getElem_cons_succ, List.getElem_cons_zero, Act.put, List.setIfInBounds_toArray, List.set_cons_zero, List.set_cons_succ]
    refine wpAnyH_ready (rs := [1, 2]) (by kernel_rfl) (by simp) ?_
    refine (AllReadyH.cons rfl (fun K' hK => ?_) (AllReadyH.cons rfl (fun K' hK => ?_) AllReadyH.nil))
    · skip
      simp only [List.getElem_toArray, List.getElem_cons_succ, List.getElem_cons_zero]
      go_simp
      refine (short_any A jj n1 c1 wd (HTd.out.at HSwd.out) (HJd.out.below HSwd.out) hm1).mono ?_
      rintro e' sc1 ⟨A1, m1, d1, rfl, hX, hb⟩
      have HXsc1 := Lib.hid hX; have HSsc1 := Lib.hid (HSwd.out.trans (hb.mono HSwd.out.size))
      clear hX hb
      refine hK.out _ _ HSsc1.out (fun _ => ?_)
      clear hK
      try simp only [List.getElem_toArray, List.getElem_cons_succ, List.getElem_cons_zero, Act.put, List.setIfInBounds_toArray, List.set_cons_zero, List.set_cons_succ]
      refine wpAnyH_ready (rs := [2]) (by kernel_rfl) (by simp) ?_
      refine (AllReadyH.cons rfl (fun K' hK => ?_) AllReadyH.nil)
      simp only [List.getElem_toArray, List.getElem_cons_succ, List.getElem_cons_zero]
      have hmk := made_run sc1
      go_simp
      have ba := (Below.refl sc1.heap.size sc1).alloc (Nat.le_refl _) (.cells (madeCells #[.int .u8 0] 32) 5)
      have za := made_txt sc1
      obtain ⟨mk2, hwa⟩ : ∃ wa, sc1.alloc (.cells (madeCells #[.int .u8 0] 32) 5) = wa := ⟨_, rfl⟩
      rw [hwa] at ba za
      try rw [hwa]
      have HSmk2 := Lib.hid (HSsc1.out.trans (ba.mono HSsc1.out.size)); have HZmk2 := Lib.hid za
      have HXmk2 := Lib.hid (HXsc1.out.below ba)
      clear hmk ba za hwa
      refine hK.out _ _ HSmk2.out (fun _ => ?_)
      clear hK
      try simp only [List.getElem_toArray, List.getElem_cons_succ, List.getElem_cons_zero, Act.put, List.setIfInBounds_toArray, List.set_cons_zero, List.set_cons_succ]
      refine wpAnyH_ready (rs := [3]) (by kernel_rfl) (by simp) ?_
      refine (AllReadyH.cons rfl (fun K' hK => ?_) AllReadyH.nil)
      simp only [List.getElem_toArray, List.getElem_cons_succ, List.getElem_cons_zero]
      go_simp
      have k1 : m1 ≤ 16000 := by rw [← HXmk2.out.2.1]; exact sh_len _
      refine (extract_any A1 (some ⟨sc1.heap.size, 0, none⟩) (sh jj) zs m1 d1 32 32 mk2 (HTd.out.at HSmk2.out) HXmk2.out (by omega) HZmk2.out (by omega)).mono ?_
      rintro e' ex3 ⟨A3, m3, d3, rfl, hX, hb⟩
      have HYex3 := Lib.hid (hX.mono (S' := fun b => wd.heap.size ≤ b) fun b hb => Nat.le_trans HSmk2.out.size hb.1); have HSex3 := Lib.hid (HSmk2.out.trans (hb.mono HSmk2.out.size))
      clear hX hb k1
      refine hK.out _ _ HSex3.out (fun _ => ?_)
      clear hK
      try simp only [List.getElem_toArray, List.getElem_cons_succ, List.getElem_cons_zero, Act.put, List.setIfInBounds_toArray, List.set_cons_zero, List.set_cons_succ]
      refine wpAnyH_take (i := 4) (v := ?ve2) rfl (by kernel_rfl) (by kernel_rfl) (by kernel_rfl) (fun _ _ _ h => h) (Or.inl ⟨by rfl, ?ye2⟩) HSex3.out ?re2
      case ye2 => (intro w' hSw; clear hSw; go_simp; try with_reducible rfl)
      simp only [List.getElem_toArray, List.getElem_cons_succ, List.getElem_cons_zero, Act.put, List.setIfInBounds_toArray, List.set_cons_zero, List.set_cons_succ]
      refine wpAnyH_done (by kernel_rfl) ?_ _
      exact ⟨(A1, m1, d1, A3, m3, d3, sc1.heap.size), rfl, Lib.hid ⟨HYex3.out, HSex3.out⟩⟩
    · skip
      simp only [List.getElem_toArray, List.getElem_cons_succ, List.getElem_cons_zero]
      have hmk := made_run wd
      go_simp
      have ba := (Below.refl wd.heap.size wd).alloc (Nat.le_refl _) (.cells (madeCells #[.int .u8 0] 32) 5)
      have za := made_txt wd
      obtain ⟨mk4, hwa⟩ : ∃ wa, wd.alloc (.cells (madeCells #[.int .u8 0] 32) 5) = wa := ⟨_, rfl⟩
      rw [hwa] at ba za
      try rw [hwa]
      have HSmk4 := Lib.hid (HSwd.out.trans (ba.mono HSwd.out.size)); have HZmk4 := Lib.hid za
      clear hmk ba za hwa
      refine hK.out _ _ HSmk4.out (fun _ => ?_)
      clear hK
      try simp only [List.getElem_toArray, List.getElem_cons_succ, List.getElem_cons_zero, Act.put, List.setIfInBounds_toArray, List.set_cons_zero, List.set_cons_succ]
      refine wpAnyH_ready (rs := [1]) (by kernel_rfl) (by simp) ?_
      refine (AllReadyH.cons rfl (fun K' hK => ?_) AllReadyH.nil)
      simp only [List.getElem_toArray, List.getElem_cons_succ, List.getElem_cons_zero]
      go_simp
      refine (short_any A jj n1 c1 mk4 (HTd.out.at HSmk4.out) (HJd.out.below HSmk4.out) hm1).mono ?_
      rintro e' sc5 ⟨A1, m1, d1, rfl, hX, hb⟩
      have HXsc5 := Lib.hid hX; have HSsc5 := Lib.hid (HSmk4.out.trans (hb.mono HSmk4.out.size))
      have HZsc5 := Lib.hid (HZmk4.out.below hb)
      clear hX hb
      refine hK.out _ _ HSsc5.out (fun _ => ?_)
      clear hK
      try simp only [List.getElem_toArray, List.getElem_cons_succ, List.getElem_cons_zero, Act.put, List.setIfInBounds_toArray, List.set_cons_zero, List.set_cons_succ]
      refine wpAnyH_ready (rs := [3]) (by kernel_rfl) (by simp) ?_
      refine (AllReadyH.cons rfl (fun K' hK => ?_) AllReadyH.nil)
      simp only [List.getElem_toArray, List.getElem_cons_succ, List.getElem_cons_zero]
      go_simp
      have k1 : m1 ≤ 16000 := by rw [← HXsc5.out.2.1]; exact sh_len _
      refine (extract_any A1 (some ⟨wd.heap.size, 0, none⟩) (sh jj) zs m1 d1 32 32 sc5 (HTd.out.at HSsc5.out) HXsc5.out (by omega) HZsc5.out (by omega)).mono ?_
      rintro e' ex6 ⟨A3, m3, d3, rfl, hX, hb⟩
      have HYex6 := Lib.hid (hX.mono (S' := fun b => wd.heap.size ≤ b) fun b hb => Nat.le_trans HSsc5.out.size hb.1); have HSex6 := Lib.hid (HSsc5.out.trans (hb.mono HSsc5.out.size))
      clear hX hb k1
      refine hK.out _ _ HSex6.out (fun _ => ?_)
      clear hK
      try simp only [List.getElem_toArray, List.getElem_cons_succ, List.getElem_cons_zero, Act.put, List.setIfInBounds_toArray, List.set_cons_zero, List.set_cons_succ]
      refine wpAnyH_take (i := 4) (v := ?ve3) rfl (by kernel_rfl) (by kernel_rfl) (by kernel_rfl) (fun _ _ _ h => h) (Or.inl ⟨by rfl, ?ye3⟩) HSex6.out ?re3
      case ye3 => (intro w' hSw; clear hSw; go_simp; try with_reducible rfl)
      simp only [List.getElem_toArray, List.getElem_cons_succ, List.getElem_cons_zero, Act.put, List.setIfInBounds_toArray, List.set_cons_zero, List.set_cons_succ]
      refine wpAnyH_done (by kernel_rfl) ?_ _
      exact ⟨(A1, m1, d1, A3, m3, d3, wd.heap.size), rfl, Lib.hid ⟨HYex6.out, HSex6.out⟩⟩
  case refine_2 =>
    rintro ⟨A1, m1, d1, A3, m3, d3, b5⟩ w5 H5
    simp only [List.setIfInBounds_toArray, List.set_cons_succ, List.set_cons_zero]
    dsimp only at H5 ⊢
    clear hwa hwb
    generalize wb.drew = wd at *
    generalize wa.heap.size = g5 at *
    have B5 := Lib.hid H5.out.2; have hs5 := H5.out.2.size
    have T5 := Lib.hid (HTd.out.at B5.out); have R15 := Lib.hid (R1.out.below B5.out (by have := HGB.out; omega)); have R25 := Lib.hid (R2.out.below B5.out HGB.out)
    have C5 := Lib.hid (HCd.out.below B5.out)
    have hg5 := HGB.out
    obtain rfl : m3 = 32 := by rw [← H5.out.1.2.1]; exact Sha.mac_len _ _
    have X5 : Hid (Far g5 w5 A3 32 d3 (fst jj)) := Lib.hid ⟨H5.out.1.any, fun ad e _ => by have := H5.out.1.2.2.2.2.2 ad e; omega⟩
    clear H5 HTd R1 R2 HCd HJd
    go_wp2_with fail
    refine (put_one A3 none (fst jj) [] 32 d3 0 0 0 g5 ⟨#[119, 101, 108, 99, 111, 109, 101]⟩ _ w5 T5.out (by omega) X5.out (Far.nil _ _) (by omega) R25.out (by omega)).mono ?_
    rintro e' w6 ⟨rfl, hk, P0, p0, u0, f1, hf, hold, hnew, hX⟩
    have R26 : Hid (Row7 w6 g5 (.slice P0 p0 u0) (.slice none 0 0) (.slice none 0 0) (.slice none 0 0) (.slice none 0 0) (.slice none 0 0) (.slice none 0 0)) := Lib.hid (hf.congr (seven hnew (hold 1 (by omega) (by omega)) (hold 2 (by omega) (by omega)) (hold 3 (by omega) (by omega)) (hold 4 (by omega) (by omega)) (hold 5 (by omega) (by omega)) (hold 6 (by omega) (by omega))))
    have K6 := Lib.hid hk; have Y06 := Lib.hid hX; have hs6 := hk.size
    have T6 := Lib.hid (T5.out.grown hk (by omega)); have X6 := Lib.hid (X5.out.grown hk); have C6 := Lib.hid (C5.out.grown hk)
    clear hk hf hold hnew hX T5 X5 C5 R25
    go_wp2_with fail
    refine (short_far g5 C x n2 c2 w6 T6.out C6.out hm2 (by omega)).mono ?_
    rintro e' w7 ⟨A4, m4, d4, rfl, hX, hb⟩
    have X7 := Lib.hid (X6.out.below hb); have T7 := Lib.hid (T6.out.at hb); have D7 := Lib.hid hX; have R27 := Lib.hid (R26.out.below hb (by omega)); have K7 := Lib.hid (grown_trans K6.out (grown_of_below hb)); have Y07 := Lib.hid (txt_new Y06.out hb); have hs7 := hb.size
    clear hX hb X6 T6 C6 R26 K6 Y06
    go_wp2_with fail
    refine (put_one A3 A4 (fst jj) (sh x) 32 d3 m4 d4 1 g5 ⟨#[101, 112, 111, 99, 104]⟩ _ w7 T7.out (by omega) X7.out D7.out (by omega) R27.out (by omega)).mono ?_
    rintro e' w8 ⟨rfl, hk, P1, p1, u1, f1, hf, hold, hnew, hX⟩
    have R28 : Hid (Row7 w8 g5 (.slice P0 p0 u0) (.slice P1 p1 u1) (.slice none 0 0) (.slice none 0 0) (.slice none 0 0) (.slice none 0 0) (.slice none 0 0)) := Lib.hid (hf.congr (seven (hold 0 (by omega) (by omega)) hnew (hold 2 (by omega) (by omega)) (hold 3 (by omega) (by omega)) (hold 4 (by omega) (by omega)) (hold 5 (by omega) (by omega)) (hold 6 (by omega) (by omega))))
    have K8 := Lib.hid (grown_trans K7.out hk); have Y08 := Lib.hid (new_grown Y07.out hk (by omega)); have Y18 := Lib.hid (txt_low hX (lo' := w5.heap.size) (by omega)); have hs8 := hk.size
    have T8 := Lib.hid (T7.out.grown hk (by omega))
    obtain rfl : p1 = 32 := by rw [← hX.2.1]; exact lb_len (by decide) (sh_len _)
    have X8 : Hid (Far g5 w8 P1 32 u1 (sec jj x)) := Lib.hid (Far.new hX (by omega))
    clear hk hf hold hnew hX T7 X7 D7 R27 K7 Y07
    obtain ⟨s0, s1, -, -, -, -, -⟩ := R28.out.cs
    go_wp2_with fail
    refine (put_five P1 none (sec jj x) [] 32 u1 0 0 g5 ⟨#[101, 110, 99, 114, 121, 112, 116]⟩ ⟨#[101, 120, 112, 111, 114, 116]⟩ ⟨#[99, 111, 110, 102, 105, 114, 109]⟩ ⟨#[109, 101, 109, 98, 101, 114]⟩ ⟨#[105, 110, 105, 116]⟩ _ w8 T8.out (by omega) X8.out (Far.nil _ _) (by omega) R28.out).mono ?_
    rintro e' w9 ⟨rfl, hk, f1, hf, hold, ⟨P2, p2, u2, e2, x2⟩, ⟨P3, p3, u3, e3, x3⟩, ⟨P4, p4, u4, e4, x4⟩, ⟨P5, p5, u5, e5, x5⟩, ⟨P6, p6, u6, e6, x6⟩⟩
    have R29 : Hid (Row7 w9 g5 (.slice P0 p0 u0) (.slice P1 32 u1) (.slice P2 p2 u2) (.slice P3 p3 u3) (.slice P4 p4 u4) (.slice P5 p5 u5) (.slice P6 p6 u6)) := Lib.hid (hf.congr (seven (hold 0 (by omega)) (hold 1 (by omega)) e2 e3 e4 e5 e6))
    have K9 := Lib.hid (grown_trans K8.out hk); have hs9 := hk.size
    have R19 := Lib.hid (R15.out.of_block (K9.out.block w.heap.size (by omega) (by intro e; injection e with e; omega)))
    have y0 := new_grown Y08.out hk (by omega)
    have y1 : Txt (New w5.heap.size w9) w9 P1 32 u1 (sec jj x) := new_grown Y18.out hk (by omega)
    have y2 := txt_low (lo' := w5.heap.size) x2 (by omega)
    have y3 := txt_low (lo' := w5.heap.size) x3 (by omega)
    have y4 := txt_low (lo' := w5.heap.size) x4 (by omega)
    have y5 := txt_low (lo' := w5.heap.size) x5 (by omega)
    have y6 := txt_low (lo' := w5.heap.size) x6 (by omega)
    have HE := Lib.hid (ep_is y0 y1 y2 y3 y4 y5 y6)
    clear y0 y1 y2 y3 y4 y5 y6
    clear hk hf hold e2 e3 e4 e5 e6 x2 x3 x4 x5 x6 T8 X8 R28 R15 K8 Y08 Y18 s0 s1
    obtain ⟨s0, s1, s2, s3, s4, s5, s6⟩ := R29.out.cs
    obtain ⟨t0, t1, t2, t3, t4, t5, t6⟩ := R19.out.cs
    have f0 := World.rowIs.frozen R19.out 0; have f1 := World.rowIs.frozen R19.out 1; have f2 := World.rowIs.frozen R19.out 2; have f3 := World.rowIs.frozen R19.out 3; have f4 := World.rowIs.frozen R19.out 4; have f5 := World.rowIs.frozen R19.out 5; have f6 := World.rowIs.frozen R19.out 6
    go_wp2_with fail
    have r10 : Row7 (((((((w9.setCell ⟨w.heap.size, 0, none⟩ (.slice P0 p0 u0)).setCell ⟨w.heap.size, 1, none⟩ (.slice P1 32 u1)).setCell ⟨w.heap.size, 2, none⟩ (.slice P2 p2 u2)).setCell ⟨w.heap.size, 3, none⟩ (.slice P3 p3 u3)).setCell ⟨w.heap.size, 4, none⟩ (.slice P4 p4 u4)).setCell ⟨w.heap.size, 5, none⟩ (.slice P5 p5 u5)).setCell ⟨w.heap.size, 6, none⟩ (.slice P6 p6 u6)) w.heap.size (.slice P0 p0 u0) (.slice P1 32 u1) (.slice P2 p2 u2) (.slice P3 p3 u3) (.slice P4 p4 u4) (.slice P5 p5 u5) (.slice P6 p6 u6) := (World.rowIs.set (World.rowIs.set (World.rowIs.set (World.rowIs.set (World.rowIs.set (World.rowIs.set (World.rowIs.set R19.out 0 (.slice P0 p0 u0)) 1 (.slice P1 32 u1)) 2 (.slice P2 p2 u2)) 3 (.slice P3 p3 u3)) 4 (.slice P4 p4 u4)) 5 (.slice P5 p5 u5)) 6 (.slice P6 p6 u6)).congr (seven rfl rfl rfl rfl rfl rfl rfl)
    have k10 : w9.grownBy (((((((w9.setCell ⟨w.heap.size, 0, none⟩ (.slice P0 p0 u0)).setCell ⟨w.heap.size, 1, none⟩ (.slice P1 32 u1)).setCell ⟨w.heap.size, 2, none⟩ (.slice P2 p2 u2)).setCell ⟨w.heap.size, 3, none⟩ (.slice P3 p3 u3)).setCell ⟨w.heap.size, 4, none⟩ (.slice P4 p4 u4)).setCell ⟨w.heap.size, 5, none⟩ (.slice P5 p5 u5)).setCell ⟨w.heap.size, 6, none⟩ (.slice P6 p6 u6)) (some w.heap.size) := grown_trans (grown_trans (grown_trans (grown_trans (grown_trans (grown_trans (grown_setCell _ _ _ _) (grown_setCell _ _ _ _)) (grown_setCell _ _ _ _)) (grown_setCell _ _ _ _)) (grown_setCell _ _ _ _)) (grown_setCell _ _ _ _)) (grown_setCell _ _ _ _)
    obtain ⟨w10, hw10⟩ : ∃ W, (((((((w9.setCell ⟨w.heap.size, 0, none⟩ (.slice P0 p0 u0)).setCell ⟨w.heap.size, 1, none⟩ (.slice P1 32 u1)).setCell ⟨w.heap.size, 2, none⟩ (.slice P2 p2 u2)).setCell ⟨w.heap.size, 3, none⟩ (.slice P3 p3 u3)).setCell ⟨w.heap.size, 4, none⟩ (.slice P4 p4 u4)).setCell ⟨w.heap.size, 5, none⟩ (.slice P5 p5 u5)).setCell ⟨w.heap.size, 6, none⟩ (.slice P6 p6 u6)) = W := ⟨_, rfl⟩
    rw [hw10] at r10 k10 ⊢
    have HE10 := Lib.hid (HE.out.grown k10 (by omega))
    have HB10 : Hid (Below w.heap.size w w10) := Lib.hid (((BB.out.trans (B5.out.mono BB.out.size)).grown K9.out (by have := BB.out.size; omega) (by intro k e; injection e with e; omega)).grown k10 (by have := BB.out.size; omega) (by intro k e; injection e with e; omega))
    clear t0 t1 t2 t3 t4 t5 t6 f0 f1 f2 f3 f4 f5 f6 s0 s1 s2 s3 s4 s5 s6 hw10 k10
    refine bodyPost_ret (v := .agg #[.slice P0 p0 u0, .slice P1 32 u1, .slice P2 p2 u2, .slice P3 p3 u3, .slice P4 p4 u4, .slice P5 p5 u5, .slice P6 p6 u6]) (results_cell_row (p := 4) (ty := 28) (by kernel_rfl) _ _ w.heap.size 28 #[.slice P0 p0 u0, .slice P1 32 u1, .slice P2 p2 u2, .slice P3 p3 u3, .slice P4 p4 u4, .slice P5 p5 u5, .slice P6 p6 u6] (0, 0) _ rfl r10.heap Tryd.underlying28 rfl epoch_size) rfl
      ⟨⟨P0, p0, u0, P1, 32, u1, P2, p2, u2, P3, p3, u3, P4, p4, u4, P5, p5, u5, P6, p6, u6⟩, rfl, HE10.out.mono fun b hb => ⟨by have := hb.1; have := BB.out.size; omega, hb.2⟩, HB10.out⟩

set_option maxHeartbeats 8000000 in
set_option maxRecDepth 100000 in
theorem rderive_any (A C : Option Addr) (jj x : List Nat) (n1 c1 n2 c2 : Nat) (w : World) (hJ : Txt Any w A n1 c1 jj) (hC : Txt Any w C n2 c2 x) (hm1 : n1 ≤ 100000) (hm2 : n2 ≤ 100000) :
    Calls Tryd.prog 14 #[.slice A n1 c1, .slice C n2 c2] w fun e w' => ∃ q : Q7, e = .returned (.agg #[.slice q.A0 q.n0 q.c0, .slice q.A1 q.n1 q.c1, .slice q.A2 q.n2 q.c2, .slice q.A3 q.n3 q.c3, .slice q.A4 q.n4 q.c4, .slice q.A5 q.n5 q.c5, .slice q.A6 q.n6 q.c6]) ∧ EpIs (New w.heap.size w') w' q (ep jj x) ∧ Below w.heap.size w w' := by
  have b1 := (Below.refl w.heap.size w).alloc (Nat.le_refl _) (.cells #[.slice none 0 0, .slice none 0 0, .slice none 0 0, .slice none 0 0, .slice none 0 0, .slice none 0 0, .slice none 0 0] 28)
  have r1 := Row7.new w (.slice none 0 0) (.slice none 0 0) (.slice none 0 0) (.slice none 0 0) (.slice none 0 0) (.slice none 0 0) (.slice none 0 0)
  obtain ⟨wb, hwb⟩ : ∃ W, w.alloc (.cells #[.slice none 0 0, .slice none 0 0, .slice none 0 0, .slice none 0 0, .slice none 0 0, .slice none 0 0, .slice none 0 0] 28) = W := ⟨_, rfl⟩
  rw [hwb] at b1 r1
  have BB : Hid (Below w.heap.size w wb.drew) := Lib.hid b1.drew
  have HJd : Hid (Txt Any wb.drew A n1 c1 jj) := Lib.hid (hJ.below BB.out)
  have HCd : Hid (Txt Any wb.drew C n2 c2 x) := Lib.hid (hC.below BB.out)
  have R1 : Hid (Row7 wb.drew w.heap.size _ _ _ _ _ _ _) := Lib.hid r1
  have HGB : Hid (w.heap.size < wb.drew.heap.size) := Lib.hid r1.lt
  clear r1 b1 hJ hC
  go_enter Tryd.func14, Tryd.ntmps14
  go_wp2_with fail
  refine wp_cut (fun a (x : Option Addr × Nat × Nat × Option Addr × Nat × Nat × Nat) => { tmps := (((((a.tmps.setIfInBounds 7 (.slice A n1 c1)).setIfInBounds 8 (.slice x.1 x.2.1 x.2.2.1)).setIfInBounds 9 (.slice (some ⟨x.2.2.2.2.2.2, 0, none⟩) 32 32)).setIfInBounds 10 (.slice x.2.2.2.1 x.2.2.2.2.1 x.2.2.2.2.2.1)).setIfInBounds 5 (.slice x.2.2.2.1 x.2.2.2.2.1 x.2.2.2.2.2.1)), defers := a.defers })
    (fun x W => Hid (Txt (fun b => wb.drew.heap.size ≤ b) W x.2.2.2.1 x.2.2.2.2.1 x.2.2.2.2.2.1 (fst jj) ∧ Below wb.drew.heap.size wb.drew W)) ?_ ?_
  case refine_1 =>
    try simp only [Act.put]
    refine Wr.region_calm ?_
    refine wp_region_any (by kernel_rfl) ?_
    change wpAny _ _ _ _ _ _ _ (World.drew wb)
    have HSwd : Hid (Below (World.drew wb).heap.size (World.drew wb) (World.drew wb)) := Lib.hid (Below.refl _ _)
    generalize World.drew wb = wd at *
    refine wpAny_of_held (S := fun W => Below wd.heap.size wd W) _ _ _ _ ?_
    refine wpAnyH_take (i := 0) (v := ?ve4) rfl (by kernel_rfl) (by kernel_rfl) (by kernel_rfl) (fun _ _ _ h => h) (Or.inl ⟨by rfl, ?ye4⟩) HSwd.out ?re4
    case ye4 => (intro w' hSw; clear hSw; go_simp; try with_reducible rfl)
    simp only [List.getElem_toArray, List.getElem_cons_succ, List.getElem_cons_zero, Act.put, List.setIfInBounds_toArray, List.set_cons_zero, List.set_cons_succ]
    refine wpAnyH_ready (rs := [1, 2]) (by kernel_rfl) (by simp) ?_
    refine (AllReadyH.cons rfl (fun K' hK => ?_) (AllReadyH.cons rfl (fun K' hK => ?_) AllReadyH.nil))
    · skip
      simp only [List.getElem_toArray, List.getElem_cons_succ, List.getElem_cons_zero]
      go_simp
      refine (rshort_any A jj n1 c1 wd (HJd.out.below HSwd.out) hm1).mono ?_
      rintro e' sc7 ⟨A1, m1, d1, rfl, hX, hb⟩
      have HXsc7 := Lib.hid hX; have HSsc7 := Lib.hid (HSwd.out.trans (hb.mono HSwd.out.size))
      clear hX hb
      refine hK.out _ _ HSsc7.out (fun _ => ?_)
      clear hK
      try simp only [List.getElem_toArray, List.getElem_cons_succ, List.getElem_cons_zero, Act.put, List.setIfInBounds_toArray, List.set_cons_zero, List.set_cons_succ]
      refine wpAnyH_ready (rs := [2]) (by kernel_rfl) (by simp) ?_
      refine (AllReadyH.cons rfl (fun K' hK => ?_) AllReadyH.nil)
      simp only [List.getElem_toArray, List.getElem_cons_succ, List.getElem_cons_zero]
      have hmk := made_run sc7
      go_simp
      have ba := (Below.refl sc7.heap.size sc7).alloc (Nat.le_refl _) (.cells (madeCells #[.int .u8 0] 32) 5)
      have za := made_txt sc7
      obtain ⟨mk8, hwa⟩ : ∃ wa, sc7.alloc (.cells (madeCells #[.int .u8 0] 32) 5) = wa := ⟨_, rfl⟩
      rw [hwa] at ba za
      try rw [hwa]
      have HSmk8 := Lib.hid (HSsc7.out.trans (ba.mono HSsc7.out.size)); have HZmk8 := Lib.hid za
      have HXmk8 := Lib.hid (HXsc7.out.below ba)
      clear hmk ba za hwa
      refine hK.out _ _ HSmk8.out (fun _ => ?_)
      clear hK
      try simp only [List.getElem_toArray, List.getElem_cons_succ, List.getElem_cons_zero, Act.put, List.setIfInBounds_toArray, List.set_cons_zero, List.set_cons_succ]
      refine wpAnyH_ready (rs := [3]) (by kernel_rfl) (by simp) ?_
      refine (AllReadyH.cons rfl (fun K' hK => ?_) AllReadyH.nil)
      simp only [List.getElem_toArray, List.getElem_cons_succ, List.getElem_cons_zero]
      go_simp
      have k1 : m1 ≤ 16000 := by rw [← HXmk8.out.2.1]; exact sh_len _
      refine (rextract_any A1 (some ⟨sc7.heap.size, 0, none⟩) (sh jj) zs m1 d1 32 32 mk8 HXmk8.out (by omega) HZmk8.out (by omega)).mono ?_
      rintro e' ex9 ⟨A3, m3, d3, rfl, hX, hb⟩
      have HYex9 := Lib.hid (hX.mono (S' := fun b => wd.heap.size ≤ b) fun b hb => Nat.le_trans HSmk8.out.size hb.1); have HSex9 := Lib.hid (HSmk8.out.trans (hb.mono HSmk8.out.size))
      clear hX hb k1
      refine hK.out _ _ HSex9.out (fun _ => ?_)
      clear hK
      try simp only [List.getElem_toArray, List.getElem_cons_succ, List.getElem_cons_zero, Act.put, List.setIfInBounds_toArray, List.set_cons_zero, List.set_cons_succ]
      refine wpAnyH_take (i := 4) (v := ?ve5) rfl (by kernel_rfl) (by kernel_rfl) (by kernel_rfl) (fun _ _ _ h => h) (Or.inl ⟨by rfl, ?ye5⟩) HSex9.out ?re5
      case ye5 => (intro w' hSw; clear hSw; go_simp; try with_reducible rfl)
      simp only [List.getElem_toArray, List.getElem_cons_succ, List.getElem_cons_zero, Act.put, List.setIfInBounds_toArray, List.set_cons_zero, List.set_cons_succ]
      refine wpAnyH_done (by kernel_rfl) ?_ _
      exact ⟨(A1, m1, d1, A3, m3, d3, sc7.heap.size), rfl, Lib.hid ⟨HYex9.out, HSex9.out⟩⟩
    · skip
      simp only [List.getElem_toArray, List.getElem_cons_succ, List.getElem_cons_zero]
      have hmk := made_run wd
      go_simp
      have ba := (Below.refl wd.heap.size wd).alloc (Nat.le_refl _) (.cells (madeCells #[.int .u8 0] 32) 5)
      have za := made_txt wd
      obtain ⟨mk10, hwa⟩ : ∃ wa, wd.alloc (.cells (madeCells #[.int .u8 0] 32) 5) = wa := ⟨_, rfl⟩
      rw [hwa] at ba za
      try rw [hwa]
      have HSmk10 := Lib.hid (HSwd.out.trans (ba.mono HSwd.out.size)); have HZmk10 := Lib.hid za
      clear hmk ba za hwa
      refine hK.out _ _ HSmk10.out (fun _ => ?_)
      clear hK
      try simp only [List.getElem_toArray, List.getElem_cons_succ, List.getElem_cons_zero, Act.put, List.setIfInBounds_toArray, List.set_cons_zero, List.set_cons_succ]
      refine wpAnyH_ready (rs := [1]) (by kernel_rfl) (by simp) ?_
      refine (AllReadyH.cons rfl (fun K' hK => ?_) AllReadyH.nil)
      simp only [List.getElem_toArray, List.getElem_cons_succ, List.getElem_cons_zero]
      go_simp
      refine (rshort_any A jj n1 c1 mk10 (HJd.out.below HSmk10.out) hm1).mono ?_
      rintro e' sc11 ⟨A1, m1, d1, rfl, hX, hb⟩
      have HXsc11 := Lib.hid hX; have HSsc11 := Lib.hid (HSmk10.out.trans (hb.mono HSmk10.out.size))
      have HZsc11 := Lib.hid (HZmk10.out.below hb)
      clear hX hb
      refine hK.out _ _ HSsc11.out (fun _ => ?_)
      clear hK
      try simp only [List.getElem_toArray, List.getElem_cons_succ, List.getElem_cons_zero, Act.put, List.setIfInBounds_toArray, List.set_cons_zero, List.set_cons_succ]
      refine wpAnyH_ready (rs := [3]) (by kernel_rfl) (by simp) ?_
      refine (AllReadyH.cons rfl (fun K' hK => ?_) AllReadyH.nil)
      simp only [List.getElem_toArray, List.getElem_cons_succ, List.getElem_cons_zero]
      go_simp
      have k1 : m1 ≤ 16000 := by rw [← HXsc11.out.2.1]; exact sh_len _
      refine (rextract_any A1 (some ⟨wd.heap.size, 0, none⟩) (sh jj) zs m1 d1 32 32 sc11 HXsc11.out (by omega) HZsc11.out (by omega)).mono ?_
      rintro e' ex12 ⟨A3, m3, d3, rfl, hX, hb⟩
      have HYex12 := Lib.hid (hX.mono (S' := fun b => wd.heap.size ≤ b) fun b hb => Nat.le_trans HSsc11.out.size hb.1); have HSex12 := Lib.hid (HSsc11.out.trans (hb.mono HSsc11.out.size))
      clear hX hb k1
      refine hK.out _ _ HSex12.out (fun _ => ?_)
      clear hK
      try simp only [List.getElem_toArray, List.getElem_cons_succ, List.getElem_cons_zero, Act.put, List.setIfInBounds_toArray, List.set_cons_zero, List.set_cons_succ]
      refine wpAnyH_take (i := 4) (v := ?ve6) rfl (by kernel_rfl) (by kernel_rfl) (by kernel_rfl) (fun _ _ _ h => h) (Or.inl ⟨by rfl, ?ye6⟩) HSex12.out ?re6
      case ye6 => (intro w' hSw; clear hSw; go_simp; try with_reducible rfl)
      simp only [List.getElem_toArray, List.getElem_cons_succ, List.getElem_cons_zero, Act.put, List.setIfInBounds_toArray, List.set_cons_zero, List.set_cons_succ]
      refine wpAnyH_done (by kernel_rfl) ?_ _
      exact ⟨(A1, m1, d1, A3, m3, d3, wd.heap.size), rfl, Lib.hid ⟨HYex12.out, HSex12.out⟩⟩
  case refine_2 =>
    rintro ⟨A1, m1, d1, A3, m3, d3, b5⟩ w4 H5
    simp only [List.setIfInBounds_toArray, List.set_cons_succ, List.set_cons_zero]
    dsimp only at H5 ⊢
    clear hwb
    generalize wb.drew = wd at *
    have hs4 := H5.out.2.size
    have hg4 := HGB.out
    obtain rfl : m3 = 32 := by rw [← H5.out.1.2.1]; exact Sha.mac_len _ _
    have b5' := (Below.refl w4.heap.size w4).alloc (Nat.le_refl _) (.cells #[.slice none 0 0, .slice none 0 0, .slice none 0 0, .slice none 0 0, .slice none 0 0, .slice none 0 0, .slice none 0 0] 28)
    have r5 := Row7.new w4 (.slice none 0 0) (.slice none 0 0) (.slice none 0 0) (.slice none 0 0) (.slice none 0 0) (.slice none 0 0) (.slice none 0 0)
    obtain ⟨w5, hw5⟩ : ∃ W, w4.alloc (.cells #[.slice none 0 0, .slice none 0 0, .slice none 0 0, .slice none 0 0, .slice none 0 0, .slice none 0 0, .slice none 0 0] 28) = W := ⟨_, rfl⟩
    rw [hw5] at b5' r5
    have hl5 := r5.lt
    obtain ⟨g6, hg6⟩ : ∃ g, w4.heap.size = g := ⟨_, rfl⟩
    rw [hg6] at r5 hl5 hs4
    have Bw5 := Lib.hid ((BB.out.trans (H5.out.2.mono BB.out.size)).trans (b5'.mono (by have := (BB.out.trans (H5.out.2.mono BB.out.size)).size; omega)))
    have Rw5 := Lib.hid r5
    have Qw5 := Lib.hid ((R1.out.below H5.out.2 HGB.out).below b5' (by omega))
    have Cw5 := Lib.hid ((Far.old HCd.out (by omega : wd.heap.size ≤ g6)).below (H5.out.2) |>.below b5')
    have Xw5 : Hid (Far g6 w5 A3 32 d3 (fst jj)) := Lib.hid ((Far.old H5.out.1.any (by omega)).below b5')
    clear H5 R1 HCd HJd r5 b5'
    go_wp2_with fail
    try rw [hw5]
    try rw [hg6]
    refine (rlabel_any ⟨#[119, 101, 108, 99, 111, 109, 101]⟩ A3 none (fst jj) [] 32 d3 0 0 32 w5 Xw5.out.1 (by omega) (Txt.nil _ _)).mono ?_
    rintro e' wl0 ⟨P0, p0, u0, rfl, hX, hb⟩
    have Y0wl0 : Hid (Txt (New w5.heap.size wl0) wl0 P0 p0 u0 (lb (fst jj) ⟨#[119, 101, 108, 99, 111, 109, 101]⟩ [])) := Lib.hid hX
    have Rwl0 := Lib.hid (Rw5.out.below hb (by omega)); have Qwl0 := Lib.hid (Qw5.out.below hb (by omega)); have Bwl0 := Lib.hid (Bw5.out.trans (hb.mono Bw5.out.size)); have hswl0 := hb.size
    have Xwl0 := Lib.hid (Xw5.out.below hb)
    have Cwl0 := Lib.hid (Cw5.out.below hb)
    clear hb Rw5 Qw5 Bw5 Xw5 Cw5 
    clear hX
    have r := World.rowIs.set Rwl0.out 0 (.slice P0 p0 u0)
    have k1 := grown_setCell wl0 g6 0 (.slice P0 p0 u0)
    have r' : Row7 (wl0.setCell ⟨g6, 0, none⟩ (.slice P0 p0 u0)) g6 (.slice P0 p0 u0) (.slice none 0 0) (.slice none 0 0) (.slice none 0 0) (.slice none 0 0) (.slice none 0 0) (.slice none 0 0) := r.congr (seven rfl rfl rfl rfl rfl rfl rfl)
    have q' := Qwl0.out.of_block (k1.block w.heap.size (by omega) (by intro e; injection e with e; omega))
    obtain ⟨-, -, -, -, -, -, -⟩ := id Rwl0.out.cs
    have c0 := Rwl0.out.cs.1
    have f0 := World.rowIs.frozen Rwl0.out 0
    obtain ⟨ws0, hws⟩ : ∃ W, wl0.setCell ⟨g6, 0, none⟩ (.slice P0 p0 u0) = W := ⟨_, rfl⟩
    rw [hws] at r' q' k1
    go_wp2_with (rw [hws])
    have Rws0 := Lib.hid r'; have Qws0 := Lib.hid q'; have Bws0 := Lib.hid (Bwl0.out.grown k1 (by have := Bwl0.out.size; omega) (by intro k e; injection e with e; omega)); have hsws0 := k1.size
    have Xws0 := Lib.hid (Xwl0.out.grown k1)
    have Cws0 := Lib.hid (Cwl0.out.grown k1)
    have Y0ws0 := Lib.hid (new_grown Y0wl0.out k1 (by omega))
    clear r r' q' k1 c0 f0 Rwl0 Qwl0 Bwl0 Xwl0 Cwl0 Y0wl0
    clear hws
    refine (rshort_far g6 C x n2 c2 ws0 Cws0.out hm2 (by omega)).mono ?_
    rintro e' wc ⟨A4, m4, d4, rfl, hX, hb⟩
    have Dwc := Lib.hid hX
    have Rwc := Lib.hid (Rws0.out.below hb (by omega)); have Qwc := Lib.hid (Qws0.out.below hb (by omega)); have Bwc := Lib.hid (Bws0.out.trans (hb.mono Bws0.out.size)); have hswc := hb.size
    have Xwc := Lib.hid (Xws0.out.below hb)
    have Y0wc := Lib.hid (txt_new Y0ws0.out hb)
    clear hb Rws0 Qws0 Bws0 Xws0 Y0ws0
    clear Cws0 hX
    go_wp2_with fail
    refine (rlabel_any ⟨#[101, 112, 111, 99, 104]⟩ A3 A4 (fst jj) (sh x) 32 d3 m4 d4 32 wc Xwc.out.1 (by omega) Dwc.out.1).mono ?_
    rintro e' wl1 ⟨P1, p1, u1, rfl, hX, hb⟩
    obtain rfl : p1 = 32 := by rw [← hX.2.1]; exact lb_len (by decide) (sh_len _)
    have Y1wl1 : Hid (Txt (New w5.heap.size wl1) wl1 P1 32 u1 (sec jj x)) := Lib.hid (txt_low hX (by omega))
    have Swl1 : Hid (Far g6 wl1 P1 32 u1 (sec jj x)) := Lib.hid (Far.new hX (by omega))
    have Rwl1 := Lib.hid (Rwc.out.below hb (by omega)); have Qwl1 := Lib.hid (Qwc.out.below hb (by omega)); have Bwl1 := Lib.hid (Bwc.out.trans (hb.mono Bwc.out.size)); have hswl1 := hb.size
    have Xwl1 := Lib.hid (Xwc.out.below hb)
    have Dwl1 := Lib.hid (Dwc.out.below hb)
    have Y0wl1 := Lib.hid (txt_new Y0wc.out hb)
    clear hb Rwc Qwc Bwc Xwc Dwc Y0wc
    clear hX
    clear Xwl1 Dwl1
    have r := World.rowIs.set Rwl1.out 1 (.slice P1 32 u1)
    have k1 := grown_setCell wl1 g6 1 (.slice P1 32 u1)
    have r' : Row7 (wl1.setCell ⟨g6, 1, none⟩ (.slice P1 32 u1)) g6 (.slice P0 p0 u0) (.slice P1 32 u1) (.slice none 0 0) (.slice none 0 0) (.slice none 0 0) (.slice none 0 0) (.slice none 0 0) := r.congr (seven rfl rfl rfl rfl rfl rfl rfl)
    have q' := Qwl1.out.of_block (k1.block w.heap.size (by omega) (by intro e; injection e with e; omega))
    obtain ⟨-, -, -, -, -, -, -⟩ := id Rwl1.out.cs
    have c0 := Rwl1.out.cs.2.1
    have f0 := World.rowIs.frozen Rwl1.out 1
    obtain ⟨ws1, hws⟩ : ∃ W, wl1.setCell ⟨g6, 1, none⟩ (.slice P1 32 u1) = W := ⟨_, rfl⟩
    rw [hws] at r' q' k1
    obtain ⟨-, s1, -, -, -, -, -⟩ := r'.cs
    go_wp2_with (rw [hws])
    have Rws1 := Lib.hid r'; have Qws1 := Lib.hid q'; have Bws1 := Lib.hid (Bwl1.out.grown k1 (by have := Bwl1.out.size; omega) (by intro k e; injection e with e; omega)); have hsws1 := k1.size
    have Sws1 := Lib.hid (Swl1.out.grown k1)
    have Y0ws1 := Lib.hid (new_grown Y0wl1.out k1 (by omega))
    have Y1ws1 := Lib.hid (new_grown Y1wl1.out k1 (by omega))
    clear r r' q' k1 c0 f0 Rwl1 Qwl1 Bwl1 Swl1 Y0wl1 Y1wl1
    clear s1
    clear hws
    refine (rlabel_any ⟨#[101, 110, 99, 114, 121, 112, 116]⟩ P1 none (sec jj x) [] 32 u1 0 0 32 ws1 Sws1.out.1 (by omega) (Txt.nil _ _)).mono ?_
    rintro e' wl2 ⟨P2, p2, u2, rfl, hX, hb⟩
    have Y2wl2 : Hid (Txt (New w5.heap.size wl2) wl2 P2 p2 u2 (lb (sec jj x) ⟨#[101, 110, 99, 114, 121, 112, 116]⟩ [])) := Lib.hid (txt_low hX (by omega))
    have Rwl2 := Lib.hid (Rws1.out.below hb (by omega)); have Qwl2 := Lib.hid (Qws1.out.below hb (by omega)); have Bwl2 := Lib.hid (Bws1.out.trans (hb.mono Bws1.out.size)); have hswl2 := hb.size
    have Swl2 := Lib.hid (Sws1.out.below hb)
    have Y0wl2 := Lib.hid (txt_new Y0ws1.out hb)
    have Y1wl2 := Lib.hid (txt_new Y1ws1.out hb)
    clear hb Rws1 Qws1 Bws1 Sws1 Y0ws1 Y1ws1
    clear hX
    have r := World.rowIs.set Rwl2.out 2 (.slice P2 p2 u2)
    have k1 := grown_setCell wl2 g6 2 (.slice P2 p2 u2)
    have r' : Row7 (wl2.setCell ⟨g6, 2, none⟩ (.slice P2 p2 u2)) g6 (.slice P0 p0 u0) (.slice P1 32 u1) (.slice P2 p2 u2) (.slice none 0 0) (.slice none 0 0) (.slice none 0 0) (.slice none 0 0) := r.congr (seven rfl rfl rfl rfl rfl rfl rfl)
    have q' := Qwl2.out.of_block (k1.block w.heap.size (by omega) (by intro e; injection e with e; omega))
    obtain ⟨-, -, -, -, -, -, -⟩ := id Rwl2.out.cs
    have c0 := Rwl2.out.cs.2.2.1
    have f0 := World.rowIs.frozen Rwl2.out 2
    obtain ⟨ws2, hws⟩ : ∃ W, wl2.setCell ⟨g6, 2, none⟩ (.slice P2 p2 u2) = W := ⟨_, rfl⟩
    rw [hws] at r' q' k1
    obtain ⟨-, s1, -, -, -, -, -⟩ := r'.cs
    go_wp2_with (rw [hws])
    have Rws2 := Lib.hid r'; have Qws2 := Lib.hid q'; have Bws2 := Lib.hid (Bwl2.out.grown k1 (by have := Bwl2.out.size; omega) (by intro k e; injection e with e; omega)); have hsws2 := k1.size
    have Sws2 := Lib.hid (Swl2.out.grown k1)
    have Y0ws2 := Lib.hid (new_grown Y0wl2.out k1 (by omega))
    have Y1ws2 := Lib.hid (new_grown Y1wl2.out k1 (by omega))
    have Y2ws2 := Lib.hid (new_grown Y2wl2.out k1 (by omega))
    clear r r' q' k1 c0 f0 Rwl2 Qwl2 Bwl2 Swl2 Y0wl2 Y1wl2 Y2wl2
    clear s1
    clear hws
    refine (rlabel_any ⟨#[101, 120, 112, 111, 114, 116]⟩ P1 none (sec jj x) [] 32 u1 0 0 32 ws2 Sws2.out.1 (by omega) (Txt.nil _ _)).mono ?_
    rintro e' wl3 ⟨P3, p3, u3, rfl, hX, hb⟩
    have Y3wl3 : Hid (Txt (New w5.heap.size wl3) wl3 P3 p3 u3 (lb (sec jj x) ⟨#[101, 120, 112, 111, 114, 116]⟩ [])) := Lib.hid (txt_low hX (by omega))
    have Rwl3 := Lib.hid (Rws2.out.below hb (by omega)); have Qwl3 := Lib.hid (Qws2.out.below hb (by omega)); have Bwl3 := Lib.hid (Bws2.out.trans (hb.mono Bws2.out.size)); have hswl3 := hb.size
    have Swl3 := Lib.hid (Sws2.out.below hb)
    have Y0wl3 := Lib.hid (txt_new Y0ws2.out hb)
    have Y1wl3 := Lib.hid (txt_new Y1ws2.out hb)
    have Y2wl3 := Lib.hid (txt_new Y2ws2.out hb)
    clear hb Rws2 Qws2 Bws2 Sws2 Y0ws2 Y1ws2 Y2ws2
    clear hX
    have r := World.rowIs.set Rwl3.out 3 (.slice P3 p3 u3)
    have k1 := grown_setCell wl3 g6 3 (.slice P3 p3 u3)
    have r' : Row7 (wl3.setCell ⟨g6, 3, none⟩ (.slice P3 p3 u3)) g6 (.slice P0 p0 u0) (.slice P1 32 u1) (.slice P2 p2 u2) (.slice P3 p3 u3) (.slice none 0 0) (.slice none 0 0) (.slice none 0 0) := r.congr (seven rfl rfl rfl rfl rfl rfl rfl)
    have q' := Qwl3.out.of_block (k1.block w.heap.size (by omega) (by intro e; injection e with e; omega))
    obtain ⟨-, -, -, -, -, -, -⟩ := id Rwl3.out.cs
    have c0 := Rwl3.out.cs.2.2.2.1
    have f0 := World.rowIs.frozen Rwl3.out 3
    obtain ⟨ws3, hws⟩ : ∃ W, wl3.setCell ⟨g6, 3, none⟩ (.slice P3 p3 u3) = W := ⟨_, rfl⟩
    rw [hws] at r' q' k1
    obtain ⟨-, s1, -, -, -, -, -⟩ := r'.cs
    go_wp2_with (rw [hws])
    have Rws3 := Lib.hid r'; have Qws3 := Lib.hid q'; have Bws3 := Lib.hid (Bwl3.out.grown k1 (by have := Bwl3.out.size; omega) (by intro k e; injection e with e; omega)); have hsws3 := k1.size
    have Sws3 := Lib.hid (Swl3.out.grown k1)
    have Y0ws3 := Lib.hid (new_grown Y0wl3.out k1 (by omega))
    have Y1ws3 := Lib.hid (new_grown Y1wl3.out k1 (by omega))
    have Y2ws3 := Lib.hid (new_grown Y2wl3.out k1 (by omega))
    have Y3ws3 := Lib.hid (new_grown Y3wl3.out k1 (by omega))
    clear r r' q' k1 c0 f0 Rwl3 Qwl3 Bwl3 Swl3 Y0wl3 Y1wl3 Y2wl3 Y3wl3
    clear s1
    clear hws
    refine (rlabel_any ⟨#[99, 111, 110, 102, 105, 114, 109]⟩ P1 none (sec jj x) [] 32 u1 0 0 32 ws3 Sws3.out.1 (by omega) (Txt.nil _ _)).mono ?_
    rintro e' wl4 ⟨P4, p4, u4, rfl, hX, hb⟩
    have Y4wl4 : Hid (Txt (New w5.heap.size wl4) wl4 P4 p4 u4 (lb (sec jj x) ⟨#[99, 111, 110, 102, 105, 114, 109]⟩ [])) := Lib.hid (txt_low hX (by omega))
    have Rwl4 := Lib.hid (Rws3.out.below hb (by omega)); have Qwl4 := Lib.hid (Qws3.out.below hb (by omega)); have Bwl4 := Lib.hid (Bws3.out.trans (hb.mono Bws3.out.size)); have hswl4 := hb.size
    have Swl4 := Lib.hid (Sws3.out.below hb)
    have Y0wl4 := Lib.hid (txt_new Y0ws3.out hb)
    have Y1wl4 := Lib.hid (txt_new Y1ws3.out hb)
    have Y2wl4 := Lib.hid (txt_new Y2ws3.out hb)
    have Y3wl4 := Lib.hid (txt_new Y3ws3.out hb)
    clear hb Rws3 Qws3 Bws3 Sws3 Y0ws3 Y1ws3 Y2ws3 Y3ws3
    clear hX
    have r := World.rowIs.set Rwl4.out 4 (.slice P4 p4 u4)
    have k1 := grown_setCell wl4 g6 4 (.slice P4 p4 u4)
    have r' : Row7 (wl4.setCell ⟨g6, 4, none⟩ (.slice P4 p4 u4)) g6 (.slice P0 p0 u0) (.slice P1 32 u1) (.slice P2 p2 u2) (.slice P3 p3 u3) (.slice P4 p4 u4) (.slice none 0 0) (.slice none 0 0) := r.congr (seven rfl rfl rfl rfl rfl rfl rfl)
    have q' := Qwl4.out.of_block (k1.block w.heap.size (by omega) (by intro e; injection e with e; omega))
    obtain ⟨-, -, -, -, -, -, -⟩ := id Rwl4.out.cs
    have c0 := Rwl4.out.cs.2.2.2.2.1
    have f0 := World.rowIs.frozen Rwl4.out 4
    obtain ⟨ws4, hws⟩ : ∃ W, wl4.setCell ⟨g6, 4, none⟩ (.slice P4 p4 u4) = W := ⟨_, rfl⟩
    rw [hws] at r' q' k1
    obtain ⟨-, s1, -, -, -, -, -⟩ := r'.cs
    go_wp2_with (rw [hws])
    have Rws4 := Lib.hid r'; have Qws4 := Lib.hid q'; have Bws4 := Lib.hid (Bwl4.out.grown k1 (by have := Bwl4.out.size; omega) (by intro k e; injection e with e; omega)); have hsws4 := k1.size
    have Sws4 := Lib.hid (Swl4.out.grown k1)
    have Y0ws4 := Lib.hid (new_grown Y0wl4.out k1 (by omega))
    have Y1ws4 := Lib.hid (new_grown Y1wl4.out k1 (by omega))
    have Y2ws4 := Lib.hid (new_grown Y2wl4.out k1 (by omega))
    have Y3ws4 := Lib.hid (new_grown Y3wl4.out k1 (by omega))
    have Y4ws4 := Lib.hid (new_grown Y4wl4.out k1 (by omega))
    clear r r' q' k1 c0 f0 Rwl4 Qwl4 Bwl4 Swl4 Y0wl4 Y1wl4 Y2wl4 Y3wl4 Y4wl4
    clear s1
    clear hws
    refine (rlabel_any ⟨#[109, 101, 109, 98, 101, 114]⟩ P1 none (sec jj x) [] 32 u1 0 0 32 ws4 Sws4.out.1 (by omega) (Txt.nil _ _)).mono ?_
    rintro e' wl5 ⟨P5, p5, u5, rfl, hX, hb⟩
    have Y5wl5 : Hid (Txt (New w5.heap.size wl5) wl5 P5 p5 u5 (lb (sec jj x) ⟨#[109, 101, 109, 98, 101, 114]⟩ [])) := Lib.hid (txt_low hX (by omega))
    have Rwl5 := Lib.hid (Rws4.out.below hb (by omega)); have Qwl5 := Lib.hid (Qws4.out.below hb (by omega)); have Bwl5 := Lib.hid (Bws4.out.trans (hb.mono Bws4.out.size)); have hswl5 := hb.size
    have Swl5 := Lib.hid (Sws4.out.below hb)
    have Y0wl5 := Lib.hid (txt_new Y0ws4.out hb)
    have Y1wl5 := Lib.hid (txt_new Y1ws4.out hb)
    have Y2wl5 := Lib.hid (txt_new Y2ws4.out hb)
    have Y3wl5 := Lib.hid (txt_new Y3ws4.out hb)
    have Y4wl5 := Lib.hid (txt_new Y4ws4.out hb)
    clear hb Rws4 Qws4 Bws4 Sws4 Y0ws4 Y1ws4 Y2ws4 Y3ws4 Y4ws4
    clear hX
    have r := World.rowIs.set Rwl5.out 5 (.slice P5 p5 u5)
    have k1 := grown_setCell wl5 g6 5 (.slice P5 p5 u5)
    have r' : Row7 (wl5.setCell ⟨g6, 5, none⟩ (.slice P5 p5 u5)) g6 (.slice P0 p0 u0) (.slice P1 32 u1) (.slice P2 p2 u2) (.slice P3 p3 u3) (.slice P4 p4 u4) (.slice P5 p5 u5) (.slice none 0 0) := r.congr (seven rfl rfl rfl rfl rfl rfl rfl)
    have q' := Qwl5.out.of_block (k1.block w.heap.size (by omega) (by intro e; injection e with e; omega))
    obtain ⟨-, -, -, -, -, -, -⟩ := id Rwl5.out.cs
    have c0 := Rwl5.out.cs.2.2.2.2.2.1
    have f0 := World.rowIs.frozen Rwl5.out 5
    obtain ⟨ws5, hws⟩ : ∃ W, wl5.setCell ⟨g6, 5, none⟩ (.slice P5 p5 u5) = W := ⟨_, rfl⟩
    rw [hws] at r' q' k1
    obtain ⟨-, s1, -, -, -, -, -⟩ := r'.cs
    go_wp2_with (rw [hws])
    have Rws5 := Lib.hid r'; have Qws5 := Lib.hid q'; have Bws5 := Lib.hid (Bwl5.out.grown k1 (by have := Bwl5.out.size; omega) (by intro k e; injection e with e; omega)); have hsws5 := k1.size
    have Sws5 := Lib.hid (Swl5.out.grown k1)
    have Y0ws5 := Lib.hid (new_grown Y0wl5.out k1 (by omega))
    have Y1ws5 := Lib.hid (new_grown Y1wl5.out k1 (by omega))
    have Y2ws5 := Lib.hid (new_grown Y2wl5.out k1 (by omega))
    have Y3ws5 := Lib.hid (new_grown Y3wl5.out k1 (by omega))
    have Y4ws5 := Lib.hid (new_grown Y4wl5.out k1 (by omega))
    have Y5ws5 := Lib.hid (new_grown Y5wl5.out k1 (by omega))
    clear r r' q' k1 c0 f0 Rwl5 Qwl5 Bwl5 Swl5 Y0wl5 Y1wl5 Y2wl5 Y3wl5 Y4wl5 Y5wl5
    clear s1
    clear hws
    refine (rlabel_any ⟨#[105, 110, 105, 116]⟩ P1 none (sec jj x) [] 32 u1 0 0 32 ws5 Sws5.out.1 (by omega) (Txt.nil _ _)).mono ?_
    rintro e' wl6 ⟨P6, p6, u6, rfl, hX, hb⟩
    have Y6wl6 : Hid (Txt (New w5.heap.size wl6) wl6 P6 p6 u6 (lb (sec jj x) ⟨#[105, 110, 105, 116]⟩ [])) := Lib.hid (txt_low hX (by omega))
    have Rwl6 := Lib.hid (Rws5.out.below hb (by omega)); have Qwl6 := Lib.hid (Qws5.out.below hb (by omega)); have Bwl6 := Lib.hid (Bws5.out.trans (hb.mono Bws5.out.size)); have hswl6 := hb.size
    have Swl6 := Lib.hid (Sws5.out.below hb)
    have Y0wl6 := Lib.hid (txt_new Y0ws5.out hb)
    have Y1wl6 := Lib.hid (txt_new Y1ws5.out hb)
    have Y2wl6 := Lib.hid (txt_new Y2ws5.out hb)
    have Y3wl6 := Lib.hid (txt_new Y3ws5.out hb)
    have Y4wl6 := Lib.hid (txt_new Y4ws5.out hb)
    have Y5wl6 := Lib.hid (txt_new Y5ws5.out hb)
    clear hb Rws5 Qws5 Bws5 Sws5 Y0ws5 Y1ws5 Y2ws5 Y3ws5 Y4ws5 Y5ws5
    clear hX
    have r := World.rowIs.set Rwl6.out 6 (.slice P6 p6 u6)
    have k1 := grown_setCell wl6 g6 6 (.slice P6 p6 u6)
    have r' : Row7 (wl6.setCell ⟨g6, 6, none⟩ (.slice P6 p6 u6)) g6 (.slice P0 p0 u0) (.slice P1 32 u1) (.slice P2 p2 u2) (.slice P3 p3 u3) (.slice P4 p4 u4) (.slice P5 p5 u5) (.slice P6 p6 u6) := r.congr (seven rfl rfl rfl rfl rfl rfl rfl)
    have q' := Qwl6.out.of_block (k1.block w.heap.size (by omega) (by intro e; injection e with e; omega))
    obtain ⟨-, -, -, -, -, -, -⟩ := id Rwl6.out.cs
    have c0 := Rwl6.out.cs.2.2.2.2.2.2
    have f0 := World.rowIs.frozen Rwl6.out 6
    obtain ⟨ws6, hws⟩ : ∃ W, wl6.setCell ⟨g6, 6, none⟩ (.slice P6 p6 u6) = W := ⟨_, rfl⟩
    rw [hws] at r' q' k1
    obtain ⟨s0, s1, s2, s3, s4, s5, s6⟩ := r'.cs
    obtain ⟨t0, t1, t2, t3, t4, t5, t6⟩ := q'.cs
    have y0 := World.rowIs.frozen q' 0; have y1 := World.rowIs.frozen q' 1; have y2 := World.rowIs.frozen q' 2; have y3 := World.rowIs.frozen q' 3; have y4 := World.rowIs.frozen q' 4; have y5 := World.rowIs.frozen q' 5; have y6 := World.rowIs.frozen q' 6
    go_wp2_with (rw [hws])
    have Rws6 := Lib.hid r'; have Qws6 := Lib.hid q'; have Bws6 := Lib.hid (Bwl6.out.grown k1 (by have := Bwl6.out.size; omega) (by intro k e; injection e with e; omega)); have hsws6 := k1.size
    have Sws6 := Lib.hid (Swl6.out.grown k1)
    have Y0ws6 := Lib.hid (new_grown Y0wl6.out k1 (by omega))
    have Y1ws6 := Lib.hid (new_grown Y1wl6.out k1 (by omega))
    have Y2ws6 := Lib.hid (new_grown Y2wl6.out k1 (by omega))
    have Y3ws6 := Lib.hid (new_grown Y3wl6.out k1 (by omega))
    have Y4ws6 := Lib.hid (new_grown Y4wl6.out k1 (by omega))
    have Y5ws6 := Lib.hid (new_grown Y5wl6.out k1 (by omega))
    have Y6ws6 := Lib.hid (new_grown Y6wl6.out k1 (by omega))
    clear r r' q' k1 c0 f0 Rwl6 Qwl6 Bwl6 Swl6 Y0wl6 Y1wl6 Y2wl6 Y3wl6 Y4wl6 Y5wl6 Y6wl6
    clear hws
    have HE := Lib.hid (ep_is Y0ws6.out Y1ws6.out Y2ws6.out Y3ws6.out Y4ws6.out Y5ws6.out Y6ws6.out)
    have r10 : Row7 (((((((ws6.setCell ⟨w.heap.size, 0, none⟩ (.slice P0 p0 u0)).setCell ⟨w.heap.size, 1, none⟩ (.slice P1 32 u1)).setCell ⟨w.heap.size, 2, none⟩ (.slice P2 p2 u2)).setCell ⟨w.heap.size, 3, none⟩ (.slice P3 p3 u3)).setCell ⟨w.heap.size, 4, none⟩ (.slice P4 p4 u4)).setCell ⟨w.heap.size, 5, none⟩ (.slice P5 p5 u5)).setCell ⟨w.heap.size, 6, none⟩ (.slice P6 p6 u6)) w.heap.size (.slice P0 p0 u0) (.slice P1 32 u1) (.slice P2 p2 u2) (.slice P3 p3 u3) (.slice P4 p4 u4) (.slice P5 p5 u5) (.slice P6 p6 u6) := (World.rowIs.set (World.rowIs.set (World.rowIs.set (World.rowIs.set (World.rowIs.set (World.rowIs.set (World.rowIs.set Qws6.out 0 (.slice P0 p0 u0)) 1 (.slice P1 32 u1)) 2 (.slice P2 p2 u2)) 3 (.slice P3 p3 u3)) 4 (.slice P4 p4 u4)) 5 (.slice P5 p5 u5)) 6 (.slice P6 p6 u6)).congr (seven rfl rfl rfl rfl rfl rfl rfl)
    have k10 : ws6.grownBy (((((((ws6.setCell ⟨w.heap.size, 0, none⟩ (.slice P0 p0 u0)).setCell ⟨w.heap.size, 1, none⟩ (.slice P1 32 u1)).setCell ⟨w.heap.size, 2, none⟩ (.slice P2 p2 u2)).setCell ⟨w.heap.size, 3, none⟩ (.slice P3 p3 u3)).setCell ⟨w.heap.size, 4, none⟩ (.slice P4 p4 u4)).setCell ⟨w.heap.size, 5, none⟩ (.slice P5 p5 u5)).setCell ⟨w.heap.size, 6, none⟩ (.slice P6 p6 u6)) (some w.heap.size) := grown_trans (grown_trans (grown_trans (grown_trans (grown_trans (grown_trans (grown_setCell _ _ _ _) (grown_setCell _ _ _ _)) (grown_setCell _ _ _ _)) (grown_setCell _ _ _ _)) (grown_setCell _ _ _ _)) (grown_setCell _ _ _ _)) (grown_setCell _ _ _ _)
    obtain ⟨w10, hw10⟩ : ∃ W, (((((((ws6.setCell ⟨w.heap.size, 0, none⟩ (.slice P0 p0 u0)).setCell ⟨w.heap.size, 1, none⟩ (.slice P1 32 u1)).setCell ⟨w.heap.size, 2, none⟩ (.slice P2 p2 u2)).setCell ⟨w.heap.size, 3, none⟩ (.slice P3 p3 u3)).setCell ⟨w.heap.size, 4, none⟩ (.slice P4 p4 u4)).setCell ⟨w.heap.size, 5, none⟩ (.slice P5 p5 u5)).setCell ⟨w.heap.size, 6, none⟩ (.slice P6 p6 u6)) = W := ⟨_, rfl⟩
    rw [hw10] at r10 k10 ⊢
    have HE10 := Lib.hid (HE.out.grown k10 (by omega))
    have HB10 : Hid (Below w.heap.size w w10) := Lib.hid (Bws6.out.grown k10 (by have := Bws6.out.size; omega) (by intro k e; injection e with e; omega))
    refine bodyPost_ret (v := .agg #[(.slice P0 p0 u0), (.slice P1 32 u1), (.slice P2 p2 u2), (.slice P3 p3 u3), (.slice P4 p4 u4), (.slice P5 p5 u5), (.slice P6 p6 u6)]) (results_cell_row (p := 4) (ty := 28) (by kernel_rfl) _ _ w.heap.size 28 #[(.slice P0 p0 u0), (.slice P1 32 u1), (.slice P2 p2 u2), (.slice P3 p3 u3), (.slice P4 p4 u4), (.slice P5 p5 u5), (.slice P6 p6 u6)] (0, 0) _ rfl r10.heap Tryd.underlying28 rfl epoch_size) rfl
      ⟨⟨P0, p0, u0, P1, 32, u1, P2, p2, u2, P3, p3, u3, P4, p4, u4, P5, p5, u5, P6, p6, u6⟩, rfl, HE10.out.mono fun b hb => ⟨by have := hb.1; omega, hb.2⟩, HB10.out⟩
end Go.Proofs.YtikafijdfgkgkaaDoor.Sc
