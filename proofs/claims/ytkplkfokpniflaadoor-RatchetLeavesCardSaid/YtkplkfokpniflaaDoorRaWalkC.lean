/- Walks: copied: a ratchet anew. Written by tools/mk_rawalkc.py. -/
import Derived.Test.YtkplkfokpniflaaDoorRaWalkB
namespace Go.Proofs.YtkplkfokpniflaaDoor.Ra
set_option linter.all false
open Go.RowKit
open Wr (Txt Any New bcells gt)

/-- only the ordinary end -/
def norm (P : Act → World → Prop) : Exit → Act → World → Prop
  | .normal, a, w => P a w
  | .ret, _, _ => False
  | .exit _, _, _ => False
  | .goto _, _, _ => False
  | .panic _, _, _ => False
  | .outgrown, _, _ => False
theorem norm_of {P : Act → World → Prop} {e : Exit} {a : Act} {w : World} (h : norm P e a w) : e = .normal ∧ P a w := by
  cases e <;> first | exact ⟨rfl, h⟩ | exact (h : False).elim
/-- the rest of a walk, once for all ways through a piece of code that ends in the ordinary way -/
theorem wp_cut {P : Program} {c : Code} {Q : Exit → Act → World → Prop} {a : Act} {w : World} {X : Type} (F : Act → X → Act) (R : X → World → Prop) (h : c.wp P (norm fun a' W => ∃ x, a' = F a x ∧ R x W) a w) (k : ∀ x W, R x W → Q .normal (F a x) W) : c.wp P Q a w :=
  Code.wp_mono (fun e a' w' h => by
    obtain ⟨rfl, x, rfl, hR⟩ := norm_of h
    exact k x w' hR) h
theorem RkB.frozen {q : RkQ} {g : Nat} {w : World} (h : RkB q w g) (off : Nat) : w.frozen? ⟨g, off, none⟩ = false := by
  unfold RkB at h
  simp [World.frozen?, h]
theorem RkB.set0 {q : RkQ} {g : Nat} {w : World} (h : RkB q w g) (E : Int) : RkB { q with g := E } (w.setCell ⟨g, 0, none⟩ (.int .i64 E)) g := by
  have hl := h.lt
  unfold RkB at h ⊢
  have h' : w.heap[g] = .cells q.cs 25 (0, 0) := by rw [Array.getElem?_eq_getElem hl] at h; injection h
  simp [World.setCell, hl, Array.getElem_modify, h', RkQ.cs]
theorem RkB.set1 {q : RkQ} {g : Nat} {w : World} {A' : Option Addr} {n' c' : Nat} (h : RkB q w g) : RkB { q with A := A', n := n', c := c' } (w.setCell ⟨g, 1, none⟩ (.slice A' n' c')) g := by
  have hl := h.lt
  unfold RkB at h ⊢
  have h' : w.heap[g] = .cells q.cs 25 (0, 0) := by rw [Array.getElem?_eq_getElem hl] at h; injection h
  simp [World.setCell, hl, Array.getElem_modify, h', RkQ.cs]
theorem RkB.set2 {q : RkQ} {g : Nat} {w : World} {K' : Option Addr} {nk' ck' : Nat} (h : RkB q w g) : RkB { q with K := K', nk := nk', ck := ck' } (w.setCell ⟨g, 2, none⟩ (.slice K' nk' ck')) g := by
  have hl := h.lt
  unfold RkB at h ⊢
  have h' : w.heap[g] = .cells q.cs 25 (0, 0) := by rw [Array.getElem?_eq_getElem hl] at h; injection h
  simp [World.setCell, hl, Array.getElem_modify, h', RkQ.cs]
theorem grown_below {w c k : World} {b : Option Nat} (h : w.grownBy c b) (hb : Below c.heap.size c k) : w.grownBy k b :=
  ⟨hb.os.trans h.os, hb.tape.trans h.tape, hb.output.trans h.output, Nat.le_trans h.size hb.size, fun i hi hn => (hb.block i (Nat.lt_of_lt_of_le hi h.size)).trans (h.block i hi hn)⟩
theorem grown_own {w c k : World} {b : Option Nat} {S : Nat → Prop} {v : Value} {n : Nat} {ks : List Kd} (h : w.grownBy c b) (ho : OwnK S w.heap.size c v n ks) (hg : c.grownBy k v.ownBlock) : w.grownBy k b :=
  ⟨hg.os.trans h.os, hg.tape.trans h.tape, hg.output.trans h.output, Nat.le_trans h.size hg.size, fun i hi hn => (hg.block i (Nat.lt_of_lt_of_le hi h.size) (fun e => by have := (ho.lt i e.symm).1; omega)).trans (h.block i hi hn)⟩
theorem grown_set {w c : World} {b : Nat} (h : w.grownBy c (some b)) (o : Nat) (v : Value) : w.grownBy (c.setCell ⟨b, o, none⟩ v) (some b) :=
  ⟨h.os, h.tape, h.output, by simpa [World.setCell] using h.size, fun i hi hn => (Below.heap_setCell c ⟨b, o, none⟩ v i (fun e => hn (by rw [e]))).trans (h.block i hi hn)⟩
theorem below_grown {w c : World} {b B : Nat} (h : w.grownBy c (some b)) (hb : B ≤ b) (hB : B ≤ w.heap.size) : Below B w c :=
  ⟨h.os, h.tape, h.output, h.size, fun i hi => h.block i (by omega) (by intro e; injection e; omega)⟩
theorem two_rks (w : World) (q p : RkQ) : ∃ W, (w.alloc (.cells q.cs 25)).alloc (.cells p.cs 25) = W ∧ RkB q W w.heap.size ∧ RkB p W (w.heap.size + 1) ∧ Below w.heap.size w W := by
  refine ⟨_, rfl, (Below.heap_alloc _ _ _ (by simp)).trans (heap_alloc_last w _), ?_, ((Below.refl _ _).alloc (Nat.le_refl _) _).alloc (by simp) _⟩
  have := heap_alloc_last (w.alloc (.cells q.cs 25)) (.cells p.cs 25)
  rwa [World.size_alloc] at this

set_option maxHeartbeats 4000000 in
set_option maxRecDepth 100000 in
theorem copied_is (q : RkQ) (r : Rk) (w : World) (hq : RkIs Any w q r) (hm : r.sec.length ≤ 1000000) (hk : ∀ k ∈ r.kept, k.key.length ≤ 1000000) (hn : q.nk ≤ 100000) :
    Calls Tryd.prog 40 #[.agg q.cs] w fun e w' => ∃ A1 n1 c1 K ck, e = .returned (.agg (RkQ.cs ⟨q.g, A1, n1, c1, K, q.nk, ck⟩)) ∧ Txt Any w' A1 n1 c1 r.sec ∧ Inn (fun b => w.heap.size ≤ b) A1 n1 ∧ OwnK (fun b => w.heap.size ≤ b) w.heap.size w' (.slice K q.nk ck) q.nk r.kept ∧ Far (Value.slice K q.nk ck).ownBlock A1 n1 ∧ Below w.heap.size w w' := by
  obtain ⟨rg, sec, ks⟩ := r
  dsimp only at hm hk ⊢
  obtain ⟨W2, hW2, g1, g2, hB2⟩ := two_rks w q zRQ
  have HSECw := hq.sec; have hkl := hq.kept.len; have hsl := hq.sec.len
  have G1d : Hid (RkB q W2.drew w.heap.size) := Lib.hid (g1.below (Below.refl _ _).drew g1.lt)
  have L1d : Hid (w.heap.size < W2.drew.heap.size) := Lib.hid G1d.out.lt
  have G2d : Hid (RkB zRQ W2.drew (w.heap.size + 1)) := Lib.hid (g2.below (Below.refl _ _).drew g2.lt)
  have L2d : Hid (w.heap.size + 1 < W2.drew.heap.size) := Lib.hid G2d.out.lt
  have HBd : Hid (Below w.heap.size w W2.drew) := Lib.hid hB2.drew
  have HKd : Hid (Kds Any W2.drew q.K q.nk q.ck ks) := Lib.hid (hq.kept.below hB2.drew)
  obtain ⟨g, A, n, c, K, nk, ckk⟩ := q
  dsimp only [RkQ.cs, zRQ] at *
  have HSEC : Hid (Txt Any W2.drew A n c sec) := Lib.hid (HSECw.below hB2.drew)
  have HN6 : Hid (n ≤ 1000000) := Lib.hid (by omega)
  have HN4 : Hid (nk ≤ 100000) := Lib.hid hn
  have HKK := Lib.hid hk; have HKL := Lib.hid hkl
  have hn63 : nk ≤ 9223372036854775807 := by omega
  clear hq hm hk hn HSECw hkl hsl g1 g2 hB2
  go_enter Tryd.func40, Tryd.ntmps40
  go_wp2_with (rw [hW2])
  try rw [hW2]
  clear hW2
  refine wp_cut (fun a (x : Option Addr × Nat × Nat × Nat) => { tmps := ((((((((a.tmps.setIfInBounds 6 (.pointer (some ⟨w.heap.size, 0, none⟩))).setIfInBounds 7 (.int .i64 g)).setIfInBounds 8 (.pointer (some ⟨w.heap.size, 1, none⟩))).setIfInBounds 9 (.slice A n c)).setIfInBounds 10 (.slice x.1 x.2.1 x.2.2.1)).setIfInBounds 11 (.agg (RkQ.cs ⟨g, x.1, x.2.1, x.2.2.1, none, 0, 0⟩))).setIfInBounds 3 (.pointer (some ⟨x.2.2.2, 0, none⟩)))), defers := a.defers })
    (fun x W => Hid (RkB ⟨g, x.1, x.2.1, x.2.2.1, none, 0, 0⟩ W x.2.2.2 ∧ Txt Any W x.1 x.2.1 x.2.2.1 sec ∧ Inn (fun y => W2.drew.heap.size ≤ y ∧ y ≠ x.2.2.2) x.1 x.2.1 ∧ W2.drew.heap.size ≤ x.2.2.2 ∧ Below W2.drew.heap.size W2.drew W)) ?_ ?_
  case refine_1 =>
    try simp only [Act.put]
    refine Wr.region_calm ?_
    refine wp_region_any (by kernel_rfl) ?_
    change wpAny _ _ _ _ _ _ _ (World.drew W2)
    have HSwd : Hid (Below (World.drew W2).heap.size (World.drew W2) (World.drew W2)) := Lib.hid (Below.refl _ _)
    generalize World.drew W2 = wd at *
    refine wpAny_of_held (S := fun W => Below wd.heap.size wd W) _ _ _ _ ?_
    refine wpAnyH_take (i := 0) (v := ?ve1) rfl (by kernel_rfl) (by kernel_rfl) (by kernel_rfl) (fun _ _ _ h => h) (Or.inl ⟨by rfl, ?ye1⟩) HSwd.out ?re1
    case ye1 => (intro w' hSw; clear hSw; go_simp; try with_reducible rfl)
    simp only [List.getElem_toArray, List.getElem_cons_succ, List.getElem_cons_zero, Act.put, List.setIfInBounds_toArray, List.set_cons_zero, List.set_cons_succ]
    refine wpAnyH_take (i := 1) (v := ?ve2) rfl (by kernel_rfl) (by kernel_rfl) (by kernel_rfl) (fun _ _ _ h => h) (Or.inl ⟨by rfl, ?ye2⟩) HSwd.out ?re2
    case ye2 => (intro w' hSw; obtain ⟨s0, s1, s2⟩ := (G1d.out.below hSw L1d.out).cs; clear hSw; go_simp; try with_reducible rfl)
    simp only [List.getElem_toArray, List.getElem_cons_succ, List.getElem_cons_zero, Act.put, List.setIfInBounds_toArray, List.set_cons_zero, List.set_cons_succ]
    refine wpAnyH_take (i := 2) (v := ?ve3) rfl (by kernel_rfl) (by kernel_rfl) (by kernel_rfl) (fun _ _ _ h => h) (Or.inl ⟨by rfl, ?ye3⟩) HSwd.out ?re3
    case ye3 => (intro w' hSw; clear hSw; go_simp; try with_reducible rfl)
    simp only [List.getElem_toArray, List.getElem_cons_succ, List.getElem_cons_zero, Act.put, List.setIfInBounds_toArray, List.set_cons_zero, List.set_cons_succ]
    refine wpAnyH_take (i := 3) (v := ?ve4) rfl (by kernel_rfl) (by kernel_rfl) (by kernel_rfl) (fun _ _ _ h => h) (Or.inl ⟨by rfl, ?ye4⟩) HSwd.out ?re4
    case ye4 => (intro w' hSw; obtain ⟨s0, s1, s2⟩ := (G1d.out.below hSw L1d.out).cs; clear hSw; go_simp; try with_reducible rfl)
    simp only [List.getElem_toArray, List.getElem_cons_succ, List.getElem_cons_zero, Act.put, List.setIfInBounds_toArray, List.set_cons_zero, List.set_cons_succ]
    refine wpAnyH_ready (rs := [4, 6]) (by kernel_rfl) (by simp) ?_
    refine (AllReadyH.cons rfl (fun K' hK => ?_) (AllReadyH.cons rfl (fun K' hK => ?_) AllReadyH.nil))
    · skip
      simp only [List.getElem_toArray, List.getElem_cons_succ, List.getElem_cons_zero]
      go_simp
      refine (clone_any A sec n c wd (HSEC.out.below HSwd.out) HN6.out).mono ?_
      rintro e' cl1 ⟨A1, n1, c1, rfl, hX, hb⟩
      have HXcl1 := Lib.hid hX.any; have HIcl1 := Lib.hid (txt_inn hX); have HVcl1 := Lib.hid (show wd.heap.size ≤ cl1.heap.size from hb.size); have HScl1 := Lib.hid (HSwd.out.trans (hb.mono HSwd.out.size))
      clear hX hb
      refine hK.out _ _ HScl1.out (fun _ => ?_)
      clear hK
      try simp only [List.getElem_toArray, List.getElem_cons_succ, List.getElem_cons_zero, Act.put, List.setIfInBounds_toArray, List.set_cons_zero, List.set_cons_succ]
      refine wpAnyH_take (i := 5) (v := ?ve5) rfl (by kernel_rfl) (by kernel_rfl) (by kernel_rfl) (fun _ _ _ h => h) (Or.inl ⟨by rfl, ?ye5⟩) HScl1.out ?re5
      case ye5 => (intro w' hSw; clear hSw; go_simp; try with_reducible rfl)
      simp only [List.getElem_toArray, List.getElem_cons_succ, List.getElem_cons_zero, Act.put, List.setIfInBounds_toArray, List.set_cons_zero, List.set_cons_succ]
      refine wpAnyH_ready (rs := [6]) (by kernel_rfl) (by simp) ?_
      refine (AllReadyH.cons rfl (fun K' hK => ?_) AllReadyH.nil)
      simp only [List.getElem_toArray, List.getElem_cons_succ, List.getElem_cons_zero]
      go_simp
      have ba := (Below.refl cl1.heap.size cl1).alloc (Nat.le_refl _) (.cells zRQ.cs 25)
      have za := RkB.new zRQ cl1
      obtain ⟨al2, hwa⟩ : ∃ wa, cl1.alloc (.cells zRQ.cs 25) = wa := ⟨_, rfl⟩
      rw [hwa] at ba za
      dsimp only [zRQ, RkQ.cs] at hwa
      try rw [hwa]
      have HSal2 := Lib.hid (HScl1.out.trans (ba.mono HScl1.out.size)); have HZal2 := Lib.hid za; have HVal2 := Lib.hid (show cl1.heap.size < al2.heap.size from za.lt)
      have HXal2 := Lib.hid (HXcl1.out.below ba); have HYal2 := Lib.hid (far_new HXcl1.out cl1.heap.size (Nat.le_refl _))
      clear hwa ba za
      refine hK.out _ _ HSal2.out (fun _ => ?_)
      clear hK
      try simp only [List.getElem_toArray, List.getElem_cons_succ, List.getElem_cons_zero, Act.put, List.setIfInBounds_toArray, List.set_cons_zero, List.set_cons_succ]
      refine wpAnyH_ready (rs := [7]) (by kernel_rfl) (by simp) ?_
      refine (AllReadyH.cons rfl (fun K' hK => ?_) AllReadyH.nil)
      simp only [List.getElem_toArray, List.getElem_cons_succ, List.getElem_cons_zero]
      rw [if_pos (by rfl)]
      refine wp_store_row 25 (.tmp 3) (.tmp 11) rfl (cl1.heap.size) (RkQ.cs ⟨g, A1, n1, c1, none, 0, 0⟩) rfl rfl 25 zRQ.cs HZal2.out (rk_sized _) rfl (rk_all _) ?_
      have HRst3 : Hid (RkB ⟨g, A1, n1, c1, none, 0, 0⟩ (al2.setRow (cl1.heap.size) (RkQ.cs ⟨g, A1, n1, c1, none, 0, 0⟩)) (cl1.heap.size)) := Lib.hid (setRow_heap al2 (cl1.heap.size) _ _ 25 _ HZal2.out)
      have HI : Hid (Inn (fun y => wd.heap.size ≤ y ∧ y ≠ cl1.heap.size) A1 n1) := Lib.hid (by
        exact fun hn ad e => ⟨Nat.le_trans HSwd.out.size (HIcl1.out hn ad e).1, fun e' => HYal2.out hn ad e (by rw [e'])⟩)
      have HSst3 := Lib.hid (below_setRow HSal2.out (by exact HScl1.out.size) (RkQ.cs ⟨g, A1, n1, c1, none, 0, 0⟩))
      have HTst3 : Hid (Txt Any (al2.setRow (cl1.heap.size) (RkQ.cs ⟨g, A1, n1, c1, none, 0, 0⟩)) A1 n1 c1 sec) := Lib.hid (txt_keep HXal2.out HI.out (by simp [World.setRow]) fun b hb _ => setRow_other al2 _ b _ hb.2)
      have HBB : Hid (wd.heap.size ≤ cl1.heap.size) := Lib.hid HScl1.out.size
      refine hK.out _ _ HSst3.out (fun _ => ?_)
      clear hK
      try simp only [List.getElem_toArray, List.getElem_cons_succ, List.getElem_cons_zero, Act.put, List.setIfInBounds_toArray, List.set_cons_zero, List.set_cons_succ]
      refine wpAnyH_done (by kernel_rfl) ?_ _
      exact ⟨(A1, n1, c1, cl1.heap.size), rfl, Lib.hid ⟨HRst3.out, HTst3.out, HI.out, HBB.out, HSst3.out⟩⟩
    · skip
      simp only [List.getElem_toArray, List.getElem_cons_succ, List.getElem_cons_zero]
      go_simp
      have ba := (Below.refl wd.heap.size wd).alloc (Nat.le_refl _) (.cells zRQ.cs 25)
      have za := RkB.new zRQ wd
      obtain ⟨al4, hwa⟩ : ∃ wa, wd.alloc (.cells zRQ.cs 25) = wa := ⟨_, rfl⟩
      rw [hwa] at ba za
      dsimp only [zRQ, RkQ.cs] at hwa
      try rw [hwa]
      have HSal4 := Lib.hid (HSwd.out.trans (ba.mono HSwd.out.size)); have HZal4 := Lib.hid za; have HVal4 := Lib.hid (show wd.heap.size < al4.heap.size from za.lt)
      clear hwa ba za
      refine hK.out _ _ HSal4.out (fun _ => ?_)
      clear hK
      try simp only [List.getElem_toArray, List.getElem_cons_succ, List.getElem_cons_zero, Act.put, List.setIfInBounds_toArray, List.set_cons_zero, List.set_cons_succ]
      refine wpAnyH_ready (rs := [4]) (by kernel_rfl) (by simp) ?_
      refine (AllReadyH.cons rfl (fun K' hK => ?_) AllReadyH.nil)
      simp only [List.getElem_toArray, List.getElem_cons_succ, List.getElem_cons_zero]
      go_simp
      refine (clone_any A sec n c al4 (HSEC.out.below HSal4.out) HN6.out).mono ?_
      rintro e' cl5 ⟨A1, n1, c1, rfl, hX, hb⟩
      have HXcl5 := Lib.hid hX.any; have HIcl5 := Lib.hid (txt_inn hX); have HVcl5 := Lib.hid (show al4.heap.size ≤ cl5.heap.size from hb.size); have HScl5 := Lib.hid (HSal4.out.trans (hb.mono HSal4.out.size))
      have HZcl5 := Lib.hid (HZal4.out.below hb HZal4.out.lt)
      clear hX hb
      refine hK.out _ _ HScl5.out (fun _ => ?_)
      clear hK
      try simp only [List.getElem_toArray, List.getElem_cons_succ, List.getElem_cons_zero, Act.put, List.setIfInBounds_toArray, List.set_cons_zero, List.set_cons_succ]
      refine wpAnyH_take (i := 5) (v := ?ve6) rfl (by kernel_rfl) (by kernel_rfl) (by kernel_rfl) (fun _ _ _ h => h) (Or.inl ⟨by rfl, ?ye6⟩) HScl5.out ?re6
      case ye6 => (intro w' hSw; clear hSw; go_simp; try with_reducible rfl)
      simp only [List.getElem_toArray, List.getElem_cons_succ, List.getElem_cons_zero, Act.put, List.setIfInBounds_toArray, List.set_cons_zero, List.set_cons_succ]
      refine wpAnyH_ready (rs := [7]) (by kernel_rfl) (by simp) ?_
      refine (AllReadyH.cons rfl (fun K' hK => ?_) AllReadyH.nil)
      simp only [List.getElem_toArray, List.getElem_cons_succ, List.getElem_cons_zero]
      rw [if_pos (by rfl)]
      refine wp_store_row 25 (.tmp 3) (.tmp 11) rfl (wd.heap.size) (RkQ.cs ⟨g, A1, n1, c1, none, 0, 0⟩) rfl rfl 25 zRQ.cs HZcl5.out (rk_sized _) rfl (rk_all _) ?_
      have HRst6 : Hid (RkB ⟨g, A1, n1, c1, none, 0, 0⟩ (cl5.setRow (wd.heap.size) (RkQ.cs ⟨g, A1, n1, c1, none, 0, 0⟩)) (wd.heap.size)) := Lib.hid (setRow_heap cl5 (wd.heap.size) _ _ 25 _ HZcl5.out)
      have HI : Hid (Inn (fun y => wd.heap.size ≤ y ∧ y ≠ wd.heap.size) A1 n1) := Lib.hid (by
        exact fun hn ad e => ⟨Nat.le_trans HSal4.out.size (HIcl5.out hn ad e).1, fun e' => by have h1 := (HIcl5.out hn ad e).1; have h2 := HVal4.out; omega⟩)
      have HSst6 := Lib.hid (below_setRow HScl5.out (by exact HSwd.out.size) (RkQ.cs ⟨g, A1, n1, c1, none, 0, 0⟩))
      have HTst6 : Hid (Txt Any (cl5.setRow (wd.heap.size) (RkQ.cs ⟨g, A1, n1, c1, none, 0, 0⟩)) A1 n1 c1 sec) := Lib.hid (txt_keep HXcl5.out HI.out (by simp [World.setRow]) fun b hb _ => setRow_other cl5 _ b _ hb.2)
      have HBB : Hid (wd.heap.size ≤ wd.heap.size) := Lib.hid HSwd.out.size
      refine hK.out _ _ HSst6.out (fun _ => ?_)
      clear hK
      try simp only [List.getElem_toArray, List.getElem_cons_succ, List.getElem_cons_zero, Act.put, List.setIfInBounds_toArray, List.set_cons_zero, List.set_cons_succ]
      refine wpAnyH_done (by kernel_rfl) ?_ _
      exact ⟨(A1, n1, c1, wd.heap.size), rfl, Lib.hid ⟨HRst6.out, HTst6.out, HI.out, HBB.out, HSst6.out⟩⟩
  case refine_2 =>
    rintro ⟨A1, n1, c1, b⟩ wb H1
    simp only [List.setIfInBounds_toArray, List.set_cons_succ, List.set_cons_zero]
    have HG1 : Hid (RkB ⟨g, A, n, c, K, nk, ckk⟩ wb w.heap.size) := Lib.hid (G1d.out.below H1.out.2.2.2.2 L1d.out)
    have HG2 : Hid (RkB ⟨0, none, 0, 0, none, 0, 0⟩ wb (w.heap.size + 1)) := Lib.hid (G2d.out.below H1.out.2.2.2.2 L2d.out)
    have HRb := Lib.hid H1.out.1; have HX1 := Lib.hid H1.out.2.1
    have HLS : Hid (w.heap.size + 1 < W2.drew.heap.size) := Lib.hid L2d.out
    obtain ⟨B0, hB0⟩ : ∃ x, W2.drew.heap.size = x := ⟨_, rfl⟩
    have HI1 : Hid (Inn (fun y => B0 ≤ y ∧ y ≠ b) A1 n1) := Lib.hid (by rw [← hB0]; exact H1.out.2.2.1)
    have HBB : Hid (B0 ≤ b) := Lib.hid (by rw [← hB0]; exact H1.out.2.2.2.1)
    have HSb0 : Hid (Below B0 W2.drew wb) := Lib.hid (by rw [← hB0]; exact H1.out.2.2.2.2)
    have HKB : Hid (Kds (fun y => y < B0) W2.drew K nk ckk ks) := Lib.hid (HKd.out.mono fun y hy _ => by rw [← hB0]; exact hy)
    have HB0w : Hid (B0 ≤ wb.heap.size) := Lib.hid (by rw [← hB0]; exact HSb0.out.size)
    have HL1 : Hid (w.heap.size + 1 < B0) := Lib.hid (by rw [← hB0]; exact HLS.out)
    have HBW : Hid (Below w.heap.size w wb) := Lib.hid (HBd.out.trans (HSb0.out.mono (by have := HL1.out; omega)))
    have HKB2 : Hid (∀ W, wb.grownBy W (some b) → Kds (fun y => y < B0) W K nk ckk ks) := Lib.hid fun W hg => HKB.out.kept ((HSb0.out.trans (below_grown hg HBB.out HB0w.out)).size) fun y hy _ => (HSb0.out.trans (below_grown hg HBB.out HB0w.out)).block y hy
    obtain ⟨s0, s1, s2⟩ := HG1.out.cs
    have HO0 : Hid (OwnK (fun y => B0 ≤ y ∧ y ≠ b) wb.heap.size wb (.slice none 0 0) 0 (ks.take 0)) := Lib.hid (OwnK.nil _ _ _)
    clear H1 hB0 HSb0 HKB HKd HSEC HBd G1d G2d L1d L2d HLS
    go_wp2_with fail
    clear s0 s1 s2
    go_loopw [15] (fun v W => ∃ (k : Nat) (K5 : Option Addr) (ck : Nat), k ≤ nk ∧ v = .int .i64 k ∧ Hid (RkB ⟨g, A1, n1, c1, K5, k, ck⟩ W b) ∧ Hid (OwnK (fun y => B0 ≤ y ∧ y ≠ b) wb.heap.size W (.slice K5 k ck) k (ks.take k)) ∧ Hid (wb.grownBy W (some b))) (fun v _ => nk - (intOf v).toNat)
    case atStart => exact ⟨0, none, 0, by omega, rfl, HRb, HO0, Lib.hid (World.grownBy.refl _ _)⟩
    case round =>
      obtain ⟨k, K5, ck, hk, rfl, HR, HO, HW⟩ := hrel
      by_cases hkn : k < nk
      case neg =>
        obtain rfl : k = nk := by omega
        have yk : ¬ (k : Int) < (k : Int) := by omega
        obtain ⟨s0, s1, s2⟩ := HR.out.cs
        have HZ : Hid (RkB ⟨0, none, 0, 0, none, 0, 0⟩ wr (w.heap.size + 1)) := Lib.hid (HG2.out.below (below_grown HW.out HBB.out HB0w.out) HL1.out)
        have HBr : Hid (Below w.heap.size w wr) := Lib.hid (HBW.out.trans ((below_grown HW.out HBB.out HB0w.out).mono (by have := HL1.out; omega)))
        go_wp2_with (refine wpList_store_row rfl 25 (.tmp 2) (.tmp 31) rfl (w.heap.size + 1) (RkQ.cs ⟨g, A1, n1, c1, K5, k, ck⟩) rfl rfl 25 (RkQ.cs ⟨0, none, 0, 0, none, 0, 0⟩) HZ.out (rk_sized _) rfl (rk_all _) ?_)
        have HQZ := Lib.hid (setRow_heap wr (w.heap.size + 1) _ (RkQ.cs ⟨g, A1, n1, c1, K5, k, ck⟩) 25 _ HZ.out)
        refine bodyPost_ret (v := .agg (RkQ.cs ⟨g, A1, n1, c1, K5, k, ck⟩)) (results_cell_row (p := 2) (ty := 25) (by kernel_rfl) _ _ (w.heap.size + 1) 25 (RkQ.cs ⟨g, A1, n1, c1, K5, k, ck⟩) (0, 0) _ rfl HQZ.out Tryd.underlying25 rfl (rk_sized _)) rfl ?_
        have hl := HL1.out
        have hx : Txt Any wr A1 n1 c1 sec := txt_keep HX1.out HI1.out HW.out.size fun y hy hlt => HW.out.block y hlt (by intro e; injection e with e; exact hy.2 e)
        have hin := txt_in HX1.out
        refine ⟨A1, n1, c1, K5, ck, rfl, ?_, HI1.out.mono fun y hy => by omega, ?_, ?_, below_setRow HBr.out (by omega) _⟩
        · exact txt_keep hx HI1.out (by simp [World.setRow]) fun y hy _ => setRow_other wr _ y _ (by omega)
        · have ho := HO.out
          rw [List.take_of_length_le (by rw [HKL.out]; omega)] at ho
          exact ((ho.keep (w' := wr.setRow (w.heap.size + 1) _) (by simp [World.setRow]) fun y hy _ => setRow_other wr _ y _ (by omega)).mono fun y _ hy => by omega).base (by have := HBW.out.size; omega)
        · intro hn ad e e'
          have h1 := (HO.out.lt ad.block e').1
          have h2 := hin hn ad e
          omega
      have yk : (k : Int) < (nk : Int) := by omega
      obtain ⟨ad, rfl⟩ := (HKB2.out wr HW.out).some (by omega)
      obtain ⟨⟨qg, QA, qn, qc⟩, hat, his⟩ := (HKB2.out wr HW.out).at k hkn
      obtain ⟨c0, c1'⟩ := hat.cells
      dsimp only at c0 c1'
      have HQG : Hid (qg = (kd ks k).g) := Lib.hid his.g
      have HQ6 : Hid (qn ≤ 1000000) := Lib.hid (by have h1 := his.key.len; have h2 := HKK.out _ (kd_mem (l := ks) (j := k) (by rw [HKL.out]; exact hkn)); dsimp only at h1; omega)
      have HTK : Hid (ks.take (k + 1) = ks.take k ++ [kd ks k]) := Lib.hid (kd_take ks k (by rw [HKL.out]; exact hkn))
      have b5 := (Below.refl wr.heap.size wr).alloc (Nat.le_refl _) (.cells #[.int .i64 qg, .slice QA qn qc] 44)
      have k5 := KdB.new ⟨qg, QA, qn, qc⟩ wr
      have t5 := his.key.below b5
      obtain ⟨w5, hw5⟩ : ∃ W, wr.alloc (.cells #[.int .i64 qg, .slice QA qn qc] 44) = W := ⟨_, rfl⟩
      obtain ⟨g5, hg5⟩ : ∃ g, wr.heap.size = g := ⟨_, rfl⟩
      dsimp only [KdQ.cs] at k5 t5
      rw [hw5] at b5 k5 t5
      have HRwd : Hid (RkB ⟨g, A1, n1, c1, K5, k, ck⟩ w5.drew b) := Lib.hid (HR.out.below b5.drew HR.out.lt)
      have HOwd : Hid (OwnK (fun y => B0 ≤ y ∧ y ≠ b) wb.heap.size w5.drew (.slice K5 k ck) k (ks.take k)) := Lib.hid (HO.out.below b5.drew)
      have HQwd : Hid (Txt Any w5.drew QA qn qc (kd ks k).key) := Lib.hid t5
      have HSwd : Hid (wb.grownBy w5.drew (some b)) := Lib.hid (grown_below HW.out b5.drew)
      rw [hg5] at k5
      have HKwd : Hid (KdB ⟨qg, QA, qn, qc⟩ w5.drew g5) := Lib.hid (k5.below (Below.refl _ _).drew k5.lt)
      clear hat his b5 k5 t5
      go_wp2_with fail
      try rw [hw5]
      try rw [hg5]
      clear c0 c1' hw5 hg5 HR HO HW
      refine wp_cut (fun a (x : Option Addr × Nat × Nat × Nat × Option Addr × Nat) => { tmps := ((((((((((((a.tmps.setIfInBounds 19 (.pointer (some ⟨b, 2, none⟩))).setIfInBounds 20 (.slice K5 k ck)).setIfInBounds 21 (.pointer (some ⟨g5, 0, none⟩))).setIfInBounds 22 (.int .i64 qg)).setIfInBounds 23 (.pointer (some ⟨g5, 1, none⟩))).setIfInBounds 24 (.slice QA qn qc)).setIfInBounds 25 (.slice x.1 x.2.1 x.2.2.1)).setIfInBounds 26 (.agg (KdQ.cs ⟨qg, x.1, x.2.1, x.2.2.1⟩))).setIfInBounds 27 (.slice (some ⟨x.2.2.2.1, 0, none⟩) 1 1)).setIfInBounds 28 (.slice x.2.2.2.2.1 (k + 1) x.2.2.2.2.2)).setIfInBounds 29 (.pointer (some ⟨b, 2, none⟩)))), defers := a.defers })
        (fun x W => Hid (RkB ⟨g, A1, n1, c1, x.2.2.2.2.1, k + 1, x.2.2.2.2.2⟩ W b ∧ OwnK (fun y => B0 ≤ y ∧ y ≠ b) wb.heap.size W (.slice x.2.2.2.2.1 (k + 1) x.2.2.2.2.2) (k + 1) (ks.take (k + 1)) ∧ wb.grownBy W (some b))) ?_ ?_
      case refine_1 =>
          try simp only [Act.put]
          refine Wr.region_calm ?_
          refine wp_region_any (by kernel_rfl) ?_
          change wpAny _ _ _ _ _ _ _ (World.drew w5)
          generalize World.drew w5 = wd at *
          refine wpAny_of_held (S := fun _ => True) _ _ _ _ ?_
          refine wpAnyH_take (i := 0) (v := ?ve7) rfl (by kernel_rfl) (by kernel_rfl) (by kernel_rfl) (fun _ _ _ h => h) (Or.inl ⟨by rfl, ?ye7⟩) trivial ?re7
          case ye7 => (intro w' hSw; clear hSw; go_simp; try with_reducible rfl)
          simp only [List.getElem_toArray, List.getElem_cons_succ, List.getElem_cons_zero, Act.put, List.setIfInBounds_toArray, List.set_cons_zero, List.set_cons_succ]
          refine wpAnyH_take (i := 2) (v := ?ve8) rfl (by kernel_rfl) (by kernel_rfl) (by kernel_rfl) (fun _ _ _ h => h) (Or.inl ⟨by rfl, ?ye8⟩) trivial ?re8
          case ye8 => (intro w' hSw; clear hSw; go_simp; try with_reducible rfl)
          simp only [List.getElem_toArray, List.getElem_cons_succ, List.getElem_cons_zero, Act.put, List.setIfInBounds_toArray, List.set_cons_zero, List.set_cons_succ]
          refine wpAnyH_take (i := 4) (v := ?ve9) rfl (by kernel_rfl) (by kernel_rfl) (by kernel_rfl) (fun _ _ _ h => h) (Or.inl ⟨by rfl, ?ye9⟩) trivial ?re9
          case ye9 => (intro w' hSw; clear hSw; go_simp; try with_reducible rfl)
          simp only [List.getElem_toArray, List.getElem_cons_succ, List.getElem_cons_zero, Act.put, List.setIfInBounds_toArray, List.set_cons_zero, List.set_cons_succ]
          refine wpAnyH_ready (rs := [1, 3, 5]) (by kernel_rfl) (by simp) ?_
          refine (AllReadyH.cons rfl (fun K' hK => ?_) (AllReadyH.cons rfl (fun K' hK => ?_) (AllReadyH.cons rfl (fun K' hK => ?_) AllReadyH.nil)))
          · skip
            simp only [List.getElem_toArray, List.getElem_cons_succ, List.getElem_cons_zero]
            obtain ⟨s0, s1, s2⟩ := HRwd.out.cs
            rw [if_pos (by rfl)]
            unfold Oper.wp execOp
            go_simp
            clear s0 s1 s2
            refine hK.out _ _ trivial (fun _ => ?_)
            clear hK
            try simp only [List.getElem_toArray, List.getElem_cons_succ, List.getElem_cons_zero, Act.put, List.setIfInBounds_toArray, List.set_cons_zero, List.set_cons_succ]
            refine wpAnyH_ready (rs := [3, 5]) (by kernel_rfl) (by simp) ?_
            refine (AllReadyH.cons rfl (fun K' hK => ?_) (AllReadyH.cons rfl (fun K' hK => ?_) AllReadyH.nil))
            · skip
              simp only [List.getElem_toArray, List.getElem_cons_succ, List.getElem_cons_zero]
              obtain ⟨t0, t1⟩ := HKwd.out.cs
              rw [if_pos (by rfl)]
              unfold Oper.wp execOp
              go_simp
              clear t0 t1
              refine hK.out _ _ trivial (fun _ => ?_)
              clear hK
              try simp only [List.getElem_toArray, List.getElem_cons_succ, List.getElem_cons_zero, Act.put, List.setIfInBounds_toArray, List.set_cons_zero, List.set_cons_succ]
              refine wpAnyH_ready (rs := [5]) (by kernel_rfl) (by simp) ?_
              refine (AllReadyH.cons rfl (fun K' hK => ?_) AllReadyH.nil)
              simp only [List.getElem_toArray, List.getElem_cons_succ, List.getElem_cons_zero]
              obtain ⟨t0, t1⟩ := HKwd.out.cs
              rw [if_pos (by rfl)]
              unfold Oper.wp execOp
              go_simp
              clear t0 t1
              refine hK.out _ _ trivial (fun _ => ?_)
              clear hK
              try simp only [List.getElem_toArray, List.getElem_cons_succ, List.getElem_cons_zero, Act.put, List.setIfInBounds_toArray, List.set_cons_zero, List.set_cons_succ]
              refine wpAnyH_ready (rs := [6]) (by kernel_rfl) (by simp) ?_
              refine (AllReadyH.cons rfl (fun K' hK => ?_) AllReadyH.nil)
              simp only [List.getElem_toArray, List.getElem_cons_succ, List.getElem_cons_zero]
              go_simp
              refine (clone_any QA (kd ks k).key qn qc wd HQwd.out HQ6.out).mono ?_
              rintro e' cl7 ⟨A2, n2, c2, rfl, hX, hb⟩
              have HRcl7 := Lib.hid (HRwd.out.below hb HRwd.out.lt); have HKcl7 := Lib.hid (HKwd.out.below hb HKwd.out.lt); have HOcl7 := Lib.hid (HOwd.out.below hb)
              have HUcl7 : Hid (KdIs (fun y => B0 ≤ y ∧ y ≠ b) cl7 ⟨qg, A2, n2, c2⟩ (kd ks k)) := Lib.hid ⟨HQG.out, hX.any, (txt_inn hX).mono fun y hy => ⟨by have h1 := hy.1; have h2 := (Nat.le_trans HB0w.out HSwd.out.size); omega, by have h1 := hy.1; have h2 := HRwd.out.lt; omega⟩⟩
              have HFcl7 : Hid (Far (Value.slice K5 k ck).ownBlock A2 n2) := Lib.hid (far_older (lo := wd.heap.size) ((txt_inn hX).mono fun y hy => hy.1) fun z hz => (HOwd.out.lt z hz).2)
              have HScl7 := Lib.hid (grown_below HSwd.out hb)
              clear hX hb
              refine hK.out _ _ trivial (fun _ => ?_)
              clear hK
              try simp only [List.getElem_toArray, List.getElem_cons_succ, List.getElem_cons_zero, Act.put, List.setIfInBounds_toArray, List.set_cons_zero, List.set_cons_succ]
              refine wpAnyH_take (i := 7) (v := ?ve10) rfl (by kernel_rfl) (by kernel_rfl) (by kernel_rfl) (fun _ _ _ h => h) (Or.inl ⟨by rfl, ?ye10⟩) trivial ?re10
              case ye10 => (intro w' hSw; clear hSw; go_simp; try with_reducible rfl)
              simp only [List.getElem_toArray, List.getElem_cons_succ, List.getElem_cons_zero, Act.put, List.setIfInBounds_toArray, List.set_cons_zero, List.set_cons_succ]
              refine wpAnyH_ready (rs := [8]) (by kernel_rfl) (by simp) ?_
              refine (AllReadyH.cons rfl (fun K' hK => ?_) AllReadyH.nil)
              simp only [List.getElem_toArray, List.getElem_cons_succ, List.getElem_cons_zero]
              go_simp
              have ba := (Below.refl cl7.heap.size cl7).alloc (Nat.le_refl _) (.cells (KdQ.cs ⟨qg, A2, n2, c2⟩) 44)
              have ho := one_kd cl7 (fun y => B0 ≤ y ∧ y ≠ b) ⟨qg, A2, n2, c2⟩ (kd ks k) HUcl7.out
              obtain ⟨li8, hwa⟩ : ∃ wa, cl7.alloc (.cells (KdQ.cs ⟨qg, A2, n2, c2⟩) 44) = wa := ⟨_, rfl⟩
              rw [hwa] at ba ho
              dsimp only [KdQ.cs] at hwa
              try rw [hwa]
              have HRli8 := Lib.hid (HRcl7.out.below ba HRcl7.out.lt); have HKli8 := Lib.hid (HKcl7.out.below ba HKcl7.out.lt); have HOli8 := Lib.hid (HOcl7.out.below ba); have HMli8 := Lib.hid ho; have HUli8 := Lib.hid (HUcl7.out.below ba); have HFli8 := Lib.hid HFcl7.out
              have HSli8 := Lib.hid (grown_below HScl7.out ba)
              clear hwa ba ho
              refine hK.out _ _ trivial (fun _ => ?_)
              clear hK
              try simp only [List.getElem_toArray, List.getElem_cons_succ, List.getElem_cons_zero, Act.put, List.setIfInBounds_toArray, List.set_cons_zero, List.set_cons_succ]
              refine wpAnyH_ready (rs := [9]) (by kernel_rfl) (by simp) ?_
              refine (AllReadyH.cons rfl (fun K' hK => ?_) AllReadyH.nil)
              simp only [List.getElem_toArray, List.getElem_cons_succ, List.getElem_cons_zero]
              rw [if_pos (by rfl)]
              refine wp_append_kd (.tmp 20) (.tmp 27) rfl (fun y => B0 ≤ y ∧ y ≠ b) wb.heap.size k 1 1 (.slice K5 k ck) (ks.take k) [kd ks k] (some ⟨cl7.heap.size, 0, none⟩) rfl rfl HOli8.out HMli8.out.1 (fun ad e j q' hj hat => by rw [HMli8.out.2 ad e j q' hj hat]; exact ⟨HUli8.out.inn, HFli8.out⟩) (by have := HN4.out; omega) HSli8.out.size ⟨(Nat.le_trans HB0w.out HSli8.out.size), by have := HRli8.out.lt; omega⟩ ?_
              intro v' ap9 hO hG hat
              obtain ⟨K6, ck6, rfl⟩ := hO.slice
              have HRap9 : Hid (RkB ⟨g, A1, n1, c1, K5, k, ck⟩ ap9 b) := Lib.hid ((hG.block b HRli8.out.lt (fun e => (HOli8.out.own b e.symm).2 rfl)).trans HRli8.out)
              have HOap9 := Lib.hid hO
              have HSap9 := Lib.hid (grown_own HSli8.out HOli8.out hG)
              clear hO hG hat
              obtain ⟨s0, s1, s2⟩ := HRap9.out.cs
              have fz := HRap9.out.frozen 2
              refine hK.out _ _ trivial (fun _ => ?_)
              clear hK
              try simp only [List.getElem_toArray, List.getElem_cons_succ, List.getElem_cons_zero, Act.put, List.setIfInBounds_toArray, List.set_cons_zero, List.set_cons_succ]
              refine wpAnyH_take (i := 10) (v := ?ve11) rfl (by kernel_rfl) (by kernel_rfl) (by kernel_rfl) (fun _ _ _ h => h) (Or.inl ⟨by rfl, ?ye11⟩) trivial ?re11
              case ye11 => (intro w' hSw; clear hSw; go_simp; try with_reducible rfl)
              simp only [List.getElem_toArray, List.getElem_cons_succ, List.getElem_cons_zero, Act.put, List.setIfInBounds_toArray, List.set_cons_zero, List.set_cons_succ]
              refine wpAnyH_ready (rs := [11]) (by kernel_rfl) (by simp) ?_
              refine (AllReadyH.cons rfl (fun K' hK => ?_) AllReadyH.nil)
              simp only [List.getElem_toArray, List.getElem_cons_succ, List.getElem_cons_zero]
              rw [if_pos (by rfl)]
              unfold Oper.wp execOp
              go_simp
              clear s0 s1 s2 fz
              have HRst10 := Lib.hid (HRap9.out.set2 (K' := K6) (nk' := k + 1) (ck' := ck6))
              have HOst10 := Lib.hid (HOap9.out.keep (w' := ap9.setCell ⟨b, 2, none⟩ (.slice K6 (k + 1) ck6)) (by simp [World.setCell]) fun y hy _ => Below.heap_setCell ap9 _ _ y hy.2)
              have HSst10 := Lib.hid (grown_set HSap9.out 2 (.slice K6 (k + 1) ck6))
              refine hK.out _ _ trivial (fun _ => ?_)
              clear hK
              try simp only [List.getElem_toArray, List.getElem_cons_succ, List.getElem_cons_zero, Act.put, List.setIfInBounds_toArray, List.set_cons_zero, List.set_cons_succ]
              refine wpAnyH_done (by kernel_rfl) ?_ _
              exact ⟨(A2, n2, c2, cl7.heap.size, K6, ck6), rfl, Lib.hid ⟨HRst10.out, by rw [HTK.out]; exact HOst10.out, HSst10.out⟩⟩
            · skip
              simp only [List.getElem_toArray, List.getElem_cons_succ, List.getElem_cons_zero]
              obtain ⟨t0, t1⟩ := HKwd.out.cs
              rw [if_pos (by rfl)]
              unfold Oper.wp execOp
              go_simp
              clear t0 t1
              refine hK.out _ _ trivial (fun _ => ?_)
              clear hK
              try simp only [List.getElem_toArray, List.getElem_cons_succ, List.getElem_cons_zero, Act.put, List.setIfInBounds_toArray, List.set_cons_zero, List.set_cons_succ]
              refine wpAnyH_ready (rs := [3, 6]) (by kernel_rfl) (by simp) ?_
              refine (AllReadyH.cons rfl (fun K' hK => ?_) (AllReadyH.cons rfl (fun K' hK => ?_) AllReadyH.nil))
              · skip
                simp only [List.getElem_toArray, List.getElem_cons_succ, List.getElem_cons_zero]
                obtain ⟨t0, t1⟩ := HKwd.out.cs
                rw [if_pos (by rfl)]
                unfold Oper.wp execOp
                go_simp
                clear t0 t1
                refine hK.out _ _ trivial (fun _ => ?_)
                clear hK
                try simp only [List.getElem_toArray, List.getElem_cons_succ, List.getElem_cons_zero, Act.put, List.setIfInBounds_toArray, List.set_cons_zero, List.set_cons_succ]
                refine wpAnyH_ready (rs := [6]) (by kernel_rfl) (by simp) ?_
                refine (AllReadyH.cons rfl (fun K' hK => ?_) AllReadyH.nil)
                simp only [List.getElem_toArray, List.getElem_cons_succ, List.getElem_cons_zero]
                go_simp
                refine (clone_any QA (kd ks k).key qn qc wd HQwd.out HQ6.out).mono ?_
                rintro e' cl11 ⟨A2, n2, c2, rfl, hX, hb⟩
                have HRcl11 := Lib.hid (HRwd.out.below hb HRwd.out.lt); have HKcl11 := Lib.hid (HKwd.out.below hb HKwd.out.lt); have HOcl11 := Lib.hid (HOwd.out.below hb)
                have HUcl11 : Hid (KdIs (fun y => B0 ≤ y ∧ y ≠ b) cl11 ⟨qg, A2, n2, c2⟩ (kd ks k)) := Lib.hid ⟨HQG.out, hX.any, (txt_inn hX).mono fun y hy => ⟨by have h1 := hy.1; have h2 := (Nat.le_trans HB0w.out HSwd.out.size); omega, by have h1 := hy.1; have h2 := HRwd.out.lt; omega⟩⟩
                have HFcl11 : Hid (Far (Value.slice K5 k ck).ownBlock A2 n2) := Lib.hid (far_older (lo := wd.heap.size) ((txt_inn hX).mono fun y hy => hy.1) fun z hz => (HOwd.out.lt z hz).2)
                have HScl11 := Lib.hid (grown_below HSwd.out hb)
                clear hX hb
                refine hK.out _ _ trivial (fun _ => ?_)
                clear hK
                try simp only [List.getElem_toArray, List.getElem_cons_succ, List.getElem_cons_zero, Act.put, List.setIfInBounds_toArray, List.set_cons_zero, List.set_cons_succ]
                refine wpAnyH_take (i := 7) (v := ?ve12) rfl (by kernel_rfl) (by kernel_rfl) (by kernel_rfl) (fun _ _ _ h => h) (Or.inl ⟨by rfl, ?ye12⟩) trivial ?re12
                case ye12 => (intro w' hSw; clear hSw; go_simp; try with_reducible rfl)
                simp only [List.getElem_toArray, List.getElem_cons_succ, List.getElem_cons_zero, Act.put, List.setIfInBounds_toArray, List.set_cons_zero, List.set_cons_succ]
                refine wpAnyH_ready (rs := [8]) (by kernel_rfl) (by simp) ?_
                refine (AllReadyH.cons rfl (fun K' hK => ?_) AllReadyH.nil)
                simp only [List.getElem_toArray, List.getElem_cons_succ, List.getElem_cons_zero]
                go_simp
                have ba := (Below.refl cl11.heap.size cl11).alloc (Nat.le_refl _) (.cells (KdQ.cs ⟨qg, A2, n2, c2⟩) 44)
                have ho := one_kd cl11 (fun y => B0 ≤ y ∧ y ≠ b) ⟨qg, A2, n2, c2⟩ (kd ks k) HUcl11.out
                obtain ⟨li12, hwa⟩ : ∃ wa, cl11.alloc (.cells (KdQ.cs ⟨qg, A2, n2, c2⟩) 44) = wa := ⟨_, rfl⟩
                rw [hwa] at ba ho
                dsimp only [KdQ.cs] at hwa
                try rw [hwa]
                have HRli12 := Lib.hid (HRcl11.out.below ba HRcl11.out.lt); have HKli12 := Lib.hid (HKcl11.out.below ba HKcl11.out.lt); have HOli12 := Lib.hid (HOcl11.out.below ba); have HMli12 := Lib.hid ho; have HUli12 := Lib.hid (HUcl11.out.below ba); have HFli12 := Lib.hid HFcl11.out
                have HSli12 := Lib.hid (grown_below HScl11.out ba)
                clear hwa ba ho
                refine hK.out _ _ trivial (fun _ => ?_)
                clear hK
                try simp only [List.getElem_toArray, List.getElem_cons_succ, List.getElem_cons_zero, Act.put, List.setIfInBounds_toArray, List.set_cons_zero, List.set_cons_succ]
                refine wpAnyH_ready (rs := [9]) (by kernel_rfl) (by simp) ?_
                refine (AllReadyH.cons rfl (fun K' hK => ?_) AllReadyH.nil)
                simp only [List.getElem_toArray, List.getElem_cons_succ, List.getElem_cons_zero]
                rw [if_pos (by rfl)]
                refine wp_append_kd (.tmp 20) (.tmp 27) rfl (fun y => B0 ≤ y ∧ y ≠ b) wb.heap.size k 1 1 (.slice K5 k ck) (ks.take k) [kd ks k] (some ⟨cl11.heap.size, 0, none⟩) rfl rfl HOli12.out HMli12.out.1 (fun ad e j q' hj hat => by rw [HMli12.out.2 ad e j q' hj hat]; exact ⟨HUli12.out.inn, HFli12.out⟩) (by have := HN4.out; omega) HSli12.out.size ⟨(Nat.le_trans HB0w.out HSli12.out.size), by have := HRli12.out.lt; omega⟩ ?_
                intro v' ap13 hO hG hat
                obtain ⟨K6, ck6, rfl⟩ := hO.slice
                have HRap13 : Hid (RkB ⟨g, A1, n1, c1, K5, k, ck⟩ ap13 b) := Lib.hid ((hG.block b HRli12.out.lt (fun e => (HOli12.out.own b e.symm).2 rfl)).trans HRli12.out)
                have HOap13 := Lib.hid hO
                have HSap13 := Lib.hid (grown_own HSli12.out HOli12.out hG)
                clear hO hG hat
                obtain ⟨s0, s1, s2⟩ := HRap13.out.cs
                have fz := HRap13.out.frozen 2
                refine hK.out _ _ trivial (fun _ => ?_)
                clear hK
                try simp only [List.getElem_toArray, List.getElem_cons_succ, List.getElem_cons_zero, Act.put, List.setIfInBounds_toArray, List.set_cons_zero, List.set_cons_succ]
                refine wpAnyH_take (i := 10) (v := ?ve13) rfl (by kernel_rfl) (by kernel_rfl) (by kernel_rfl) (fun _ _ _ h => h) (Or.inl ⟨by rfl, ?ye13⟩) trivial ?re13
                case ye13 => (intro w' hSw; clear hSw; go_simp; try with_reducible rfl)
                simp only [List.getElem_toArray, List.getElem_cons_succ, List.getElem_cons_zero, Act.put, List.setIfInBounds_toArray, List.set_cons_zero, List.set_cons_succ]
                refine wpAnyH_ready (rs := [11]) (by kernel_rfl) (by simp) ?_
                refine (AllReadyH.cons rfl (fun K' hK => ?_) AllReadyH.nil)
                simp only [List.getElem_toArray, List.getElem_cons_succ, List.getElem_cons_zero]
                rw [if_pos (by rfl)]
                unfold Oper.wp execOp
                go_simp
                clear s0 s1 s2 fz
                have HRst14 := Lib.hid (HRap13.out.set2 (K' := K6) (nk' := k + 1) (ck' := ck6))
                have HOst14 := Lib.hid (HOap13.out.keep (w' := ap13.setCell ⟨b, 2, none⟩ (.slice K6 (k + 1) ck6)) (by simp [World.setCell]) fun y hy _ => Below.heap_setCell ap13 _ _ y hy.2)
                have HSst14 := Lib.hid (grown_set HSap13.out 2 (.slice K6 (k + 1) ck6))
                refine hK.out _ _ trivial (fun _ => ?_)
                clear hK
                try simp only [List.getElem_toArray, List.getElem_cons_succ, List.getElem_cons_zero, Act.put, List.setIfInBounds_toArray, List.set_cons_zero, List.set_cons_succ]
                refine wpAnyH_done (by kernel_rfl) ?_ _
                exact ⟨(A2, n2, c2, cl11.heap.size, K6, ck6), rfl, Lib.hid ⟨HRst14.out, by rw [HTK.out]; exact HOst14.out, HSst14.out⟩⟩
              · skip
                simp only [List.getElem_toArray, List.getElem_cons_succ, List.getElem_cons_zero]
                go_simp
                refine (clone_any QA (kd ks k).key qn qc wd HQwd.out HQ6.out).mono ?_
                rintro e' cl15 ⟨A2, n2, c2, rfl, hX, hb⟩
                have HRcl15 := Lib.hid (HRwd.out.below hb HRwd.out.lt); have HKcl15 := Lib.hid (HKwd.out.below hb HKwd.out.lt); have HOcl15 := Lib.hid (HOwd.out.below hb)
                have HUcl15 : Hid (KdIs (fun y => B0 ≤ y ∧ y ≠ b) cl15 ⟨qg, A2, n2, c2⟩ (kd ks k)) := Lib.hid ⟨HQG.out, hX.any, (txt_inn hX).mono fun y hy => ⟨by have h1 := hy.1; have h2 := (Nat.le_trans HB0w.out HSwd.out.size); omega, by have h1 := hy.1; have h2 := HRwd.out.lt; omega⟩⟩
                have HFcl15 : Hid (Far (Value.slice K5 k ck).ownBlock A2 n2) := Lib.hid (far_older (lo := wd.heap.size) ((txt_inn hX).mono fun y hy => hy.1) fun z hz => (HOwd.out.lt z hz).2)
                have HScl15 := Lib.hid (grown_below HSwd.out hb)
                clear hX hb
                refine hK.out _ _ trivial (fun _ => ?_)
                clear hK
                try simp only [List.getElem_toArray, List.getElem_cons_succ, List.getElem_cons_zero, Act.put, List.setIfInBounds_toArray, List.set_cons_zero, List.set_cons_succ]
                refine wpAnyH_ready (rs := [3]) (by kernel_rfl) (by simp) ?_
                refine (AllReadyH.cons rfl (fun K' hK => ?_) AllReadyH.nil)
                simp only [List.getElem_toArray, List.getElem_cons_succ, List.getElem_cons_zero]
                obtain ⟨t0, t1⟩ := HKcl15.out.cs
                rw [if_pos (by rfl)]
                unfold Oper.wp execOp
                go_simp
                clear t0 t1
                refine hK.out _ _ trivial (fun _ => ?_)
                clear hK
                try simp only [List.getElem_toArray, List.getElem_cons_succ, List.getElem_cons_zero, Act.put, List.setIfInBounds_toArray, List.set_cons_zero, List.set_cons_succ]
                refine wpAnyH_take (i := 7) (v := ?ve14) rfl (by kernel_rfl) (by kernel_rfl) (by kernel_rfl) (fun _ _ _ h => h) (Or.inl ⟨by rfl, ?ye14⟩) trivial ?re14
                case ye14 => (intro w' hSw; clear hSw; go_simp; try with_reducible rfl)
                simp only [List.getElem_toArray, List.getElem_cons_succ, List.getElem_cons_zero, Act.put, List.setIfInBounds_toArray, List.set_cons_zero, List.set_cons_succ]
                refine wpAnyH_ready (rs := [8]) (by kernel_rfl) (by simp) ?_
                refine (AllReadyH.cons rfl (fun K' hK => ?_) AllReadyH.nil)
                simp only [List.getElem_toArray, List.getElem_cons_succ, List.getElem_cons_zero]
                go_simp
                have ba := (Below.refl cl15.heap.size cl15).alloc (Nat.le_refl _) (.cells (KdQ.cs ⟨qg, A2, n2, c2⟩) 44)
                have ho := one_kd cl15 (fun y => B0 ≤ y ∧ y ≠ b) ⟨qg, A2, n2, c2⟩ (kd ks k) HUcl15.out
                obtain ⟨li16, hwa⟩ : ∃ wa, cl15.alloc (.cells (KdQ.cs ⟨qg, A2, n2, c2⟩) 44) = wa := ⟨_, rfl⟩
                rw [hwa] at ba ho
                dsimp only [KdQ.cs] at hwa
                try rw [hwa]
                have HRli16 := Lib.hid (HRcl15.out.below ba HRcl15.out.lt); have HKli16 := Lib.hid (HKcl15.out.below ba HKcl15.out.lt); have HOli16 := Lib.hid (HOcl15.out.below ba); have HMli16 := Lib.hid ho; have HUli16 := Lib.hid (HUcl15.out.below ba); have HFli16 := Lib.hid HFcl15.out
                have HSli16 := Lib.hid (grown_below HScl15.out ba)
                clear hwa ba ho
                refine hK.out _ _ trivial (fun _ => ?_)
                clear hK
                try simp only [List.getElem_toArray, List.getElem_cons_succ, List.getElem_cons_zero, Act.put, List.setIfInBounds_toArray, List.set_cons_zero, List.set_cons_succ]
                refine wpAnyH_ready (rs := [9]) (by kernel_rfl) (by simp) ?_
                refine (AllReadyH.cons rfl (fun K' hK => ?_) AllReadyH.nil)
                simp only [List.getElem_toArray, List.getElem_cons_succ, List.getElem_cons_zero]
                rw [if_pos (by rfl)]
                refine wp_append_kd (.tmp 20) (.tmp 27) rfl (fun y => B0 ≤ y ∧ y ≠ b) wb.heap.size k 1 1 (.slice K5 k ck) (ks.take k) [kd ks k] (some ⟨cl15.heap.size, 0, none⟩) rfl rfl HOli16.out HMli16.out.1 (fun ad e j q' hj hat => by rw [HMli16.out.2 ad e j q' hj hat]; exact ⟨HUli16.out.inn, HFli16.out⟩) (by have := HN4.out; omega) HSli16.out.size ⟨(Nat.le_trans HB0w.out HSli16.out.size), by have := HRli16.out.lt; omega⟩ ?_
                intro v' ap17 hO hG hat
                obtain ⟨K6, ck6, rfl⟩ := hO.slice
                have HRap17 : Hid (RkB ⟨g, A1, n1, c1, K5, k, ck⟩ ap17 b) := Lib.hid ((hG.block b HRli16.out.lt (fun e => (HOli16.out.own b e.symm).2 rfl)).trans HRli16.out)
                have HOap17 := Lib.hid hO
                have HSap17 := Lib.hid (grown_own HSli16.out HOli16.out hG)
                clear hO hG hat
                obtain ⟨s0, s1, s2⟩ := HRap17.out.cs
                have fz := HRap17.out.frozen 2
                refine hK.out _ _ trivial (fun _ => ?_)
                clear hK
                try simp only [List.getElem_toArray, List.getElem_cons_succ, List.getElem_cons_zero, Act.put, List.setIfInBounds_toArray, List.set_cons_zero, List.set_cons_succ]
                refine wpAnyH_take (i := 10) (v := ?ve15) rfl (by kernel_rfl) (by kernel_rfl) (by kernel_rfl) (fun _ _ _ h => h) (Or.inl ⟨by rfl, ?ye15⟩) trivial ?re15
                case ye15 => (intro w' hSw; clear hSw; go_simp; try with_reducible rfl)
                simp only [List.getElem_toArray, List.getElem_cons_succ, List.getElem_cons_zero, Act.put, List.setIfInBounds_toArray, List.set_cons_zero, List.set_cons_succ]
                refine wpAnyH_ready (rs := [11]) (by kernel_rfl) (by simp) ?_
                refine (AllReadyH.cons rfl (fun K' hK => ?_) AllReadyH.nil)
                simp only [List.getElem_toArray, List.getElem_cons_succ, List.getElem_cons_zero]
                rw [if_pos (by rfl)]
                unfold Oper.wp execOp
                go_simp
                clear s0 s1 s2 fz
                have HRst18 := Lib.hid (HRap17.out.set2 (K' := K6) (nk' := k + 1) (ck' := ck6))
                have HOst18 := Lib.hid (HOap17.out.keep (w' := ap17.setCell ⟨b, 2, none⟩ (.slice K6 (k + 1) ck6)) (by simp [World.setCell]) fun y hy _ => Below.heap_setCell ap17 _ _ y hy.2)
                have HSst18 := Lib.hid (grown_set HSap17.out 2 (.slice K6 (k + 1) ck6))
                refine hK.out _ _ trivial (fun _ => ?_)
                clear hK
                try simp only [List.getElem_toArray, List.getElem_cons_succ, List.getElem_cons_zero, Act.put, List.setIfInBounds_toArray, List.set_cons_zero, List.set_cons_succ]
                refine wpAnyH_done (by kernel_rfl) ?_ _
                exact ⟨(A2, n2, c2, cl15.heap.size, K6, ck6), rfl, Lib.hid ⟨HRst18.out, by rw [HTK.out]; exact HOst18.out, HSst18.out⟩⟩
          · skip
            simp only [List.getElem_toArray, List.getElem_cons_succ, List.getElem_cons_zero]
            obtain ⟨t0, t1⟩ := HKwd.out.cs
            rw [if_pos (by rfl)]
            unfold Oper.wp execOp
            go_simp
            clear t0 t1
            refine hK.out _ _ trivial (fun _ => ?_)
            clear hK
            try simp only [List.getElem_toArray, List.getElem_cons_succ, List.getElem_cons_zero, Act.put, List.setIfInBounds_toArray, List.set_cons_zero, List.set_cons_succ]
            refine wpAnyH_ready (rs := [1, 5]) (by kernel_rfl) (by simp) ?_
            refine (AllReadyH.cons rfl (fun K' hK => ?_) (AllReadyH.cons rfl (fun K' hK => ?_) AllReadyH.nil))
            · skip
              simp only [List.getElem_toArray, List.getElem_cons_succ, List.getElem_cons_zero]
              obtain ⟨s0, s1, s2⟩ := HRwd.out.cs
              rw [if_pos (by rfl)]
              unfold Oper.wp execOp
              go_simp
              clear s0 s1 s2
              refine hK.out _ _ trivial (fun _ => ?_)
              clear hK
              try simp only [List.getElem_toArray, List.getElem_cons_succ, List.getElem_cons_zero, Act.put, List.setIfInBounds_toArray, List.set_cons_zero, List.set_cons_succ]
              refine wpAnyH_ready (rs := [5]) (by kernel_rfl) (by simp) ?_
              refine (AllReadyH.cons rfl (fun K' hK => ?_) AllReadyH.nil)
              simp only [List.getElem_toArray, List.getElem_cons_succ, List.getElem_cons_zero]
              obtain ⟨t0, t1⟩ := HKwd.out.cs
              rw [if_pos (by rfl)]
              unfold Oper.wp execOp
              go_simp
              clear t0 t1
              refine hK.out _ _ trivial (fun _ => ?_)
              clear hK
              try simp only [List.getElem_toArray, List.getElem_cons_succ, List.getElem_cons_zero, Act.put, List.setIfInBounds_toArray, List.set_cons_zero, List.set_cons_succ]
              refine wpAnyH_ready (rs := [6]) (by kernel_rfl) (by simp) ?_
              refine (AllReadyH.cons rfl (fun K' hK => ?_) AllReadyH.nil)
              simp only [List.getElem_toArray, List.getElem_cons_succ, List.getElem_cons_zero]
              go_simp
              refine (clone_any QA (kd ks k).key qn qc wd HQwd.out HQ6.out).mono ?_
              rintro e' cl19 ⟨A2, n2, c2, rfl, hX, hb⟩
              have HRcl19 := Lib.hid (HRwd.out.below hb HRwd.out.lt); have HKcl19 := Lib.hid (HKwd.out.below hb HKwd.out.lt); have HOcl19 := Lib.hid (HOwd.out.below hb)
              have HUcl19 : Hid (KdIs (fun y => B0 ≤ y ∧ y ≠ b) cl19 ⟨qg, A2, n2, c2⟩ (kd ks k)) := Lib.hid ⟨HQG.out, hX.any, (txt_inn hX).mono fun y hy => ⟨by have h1 := hy.1; have h2 := (Nat.le_trans HB0w.out HSwd.out.size); omega, by have h1 := hy.1; have h2 := HRwd.out.lt; omega⟩⟩
              have HFcl19 : Hid (Far (Value.slice K5 k ck).ownBlock A2 n2) := Lib.hid (far_older (lo := wd.heap.size) ((txt_inn hX).mono fun y hy => hy.1) fun z hz => (HOwd.out.lt z hz).2)
              have HScl19 := Lib.hid (grown_below HSwd.out hb)
              clear hX hb
              refine hK.out _ _ trivial (fun _ => ?_)
              clear hK
              try simp only [List.getElem_toArray, List.getElem_cons_succ, List.getElem_cons_zero, Act.put, List.setIfInBounds_toArray, List.set_cons_zero, List.set_cons_succ]
              refine wpAnyH_take (i := 7) (v := ?ve16) rfl (by kernel_rfl) (by kernel_rfl) (by kernel_rfl) (fun _ _ _ h => h) (Or.inl ⟨by rfl, ?ye16⟩) trivial ?re16
              case ye16 => (intro w' hSw; clear hSw; go_simp; try with_reducible rfl)
              simp only [List.getElem_toArray, List.getElem_cons_succ, List.getElem_cons_zero, Act.put, List.setIfInBounds_toArray, List.set_cons_zero, List.set_cons_succ]
              refine wpAnyH_ready (rs := [8]) (by kernel_rfl) (by simp) ?_
              refine (AllReadyH.cons rfl (fun K' hK => ?_) AllReadyH.nil)
              simp only [List.getElem_toArray, List.getElem_cons_succ, List.getElem_cons_zero]
              go_simp
              have ba := (Below.refl cl19.heap.size cl19).alloc (Nat.le_refl _) (.cells (KdQ.cs ⟨qg, A2, n2, c2⟩) 44)
              have ho := one_kd cl19 (fun y => B0 ≤ y ∧ y ≠ b) ⟨qg, A2, n2, c2⟩ (kd ks k) HUcl19.out
              obtain ⟨li20, hwa⟩ : ∃ wa, cl19.alloc (.cells (KdQ.cs ⟨qg, A2, n2, c2⟩) 44) = wa := ⟨_, rfl⟩
              rw [hwa] at ba ho
              dsimp only [KdQ.cs] at hwa
              try rw [hwa]
              have HRli20 := Lib.hid (HRcl19.out.below ba HRcl19.out.lt); have HKli20 := Lib.hid (HKcl19.out.below ba HKcl19.out.lt); have HOli20 := Lib.hid (HOcl19.out.below ba); have HMli20 := Lib.hid ho; have HUli20 := Lib.hid (HUcl19.out.below ba); have HFli20 := Lib.hid HFcl19.out
              have HSli20 := Lib.hid (grown_below HScl19.out ba)
              clear hwa ba ho
              refine hK.out _ _ trivial (fun _ => ?_)
              clear hK
              try simp only [List.getElem_toArray, List.getElem_cons_succ, List.getElem_cons_zero, Act.put, List.setIfInBounds_toArray, List.set_cons_zero, List.set_cons_succ]
              refine wpAnyH_ready (rs := [9]) (by kernel_rfl) (by simp) ?_
              refine (AllReadyH.cons rfl (fun K' hK => ?_) AllReadyH.nil)
              simp only [List.getElem_toArray, List.getElem_cons_succ, List.getElem_cons_zero]
              rw [if_pos (by rfl)]
              refine wp_append_kd (.tmp 20) (.tmp 27) rfl (fun y => B0 ≤ y ∧ y ≠ b) wb.heap.size k 1 1 (.slice K5 k ck) (ks.take k) [kd ks k] (some ⟨cl19.heap.size, 0, none⟩) rfl rfl HOli20.out HMli20.out.1 (fun ad e j q' hj hat => by rw [HMli20.out.2 ad e j q' hj hat]; exact ⟨HUli20.out.inn, HFli20.out⟩) (by have := HN4.out; omega) HSli20.out.size ⟨(Nat.le_trans HB0w.out HSli20.out.size), by have := HRli20.out.lt; omega⟩ ?_
              intro v' ap21 hO hG hat
              obtain ⟨K6, ck6, rfl⟩ := hO.slice
              have HRap21 : Hid (RkB ⟨g, A1, n1, c1, K5, k, ck⟩ ap21 b) := Lib.hid ((hG.block b HRli20.out.lt (fun e => (HOli20.out.own b e.symm).2 rfl)).trans HRli20.out)
              have HOap21 := Lib.hid hO
              have HSap21 := Lib.hid (grown_own HSli20.out HOli20.out hG)
              clear hO hG hat
              obtain ⟨s0, s1, s2⟩ := HRap21.out.cs
              have fz := HRap21.out.frozen 2
              refine hK.out _ _ trivial (fun _ => ?_)
              clear hK
              try simp only [List.getElem_toArray, List.getElem_cons_succ, List.getElem_cons_zero, Act.put, List.setIfInBounds_toArray, List.set_cons_zero, List.set_cons_succ]
              refine wpAnyH_take (i := 10) (v := ?ve17) rfl (by kernel_rfl) (by kernel_rfl) (by kernel_rfl) (fun _ _ _ h => h) (Or.inl ⟨by rfl, ?ye17⟩) trivial ?re17
              case ye17 => (intro w' hSw; clear hSw; go_simp; try with_reducible rfl)
              simp only [List.getElem_toArray, List.getElem_cons_succ, List.getElem_cons_zero, Act.put, List.setIfInBounds_toArray, List.set_cons_zero, List.set_cons_succ]
              refine wpAnyH_ready (rs := [11]) (by kernel_rfl) (by simp) ?_
              refine (AllReadyH.cons rfl (fun K' hK => ?_) AllReadyH.nil)
              simp only [List.getElem_toArray, List.getElem_cons_succ, List.getElem_cons_zero]
              rw [if_pos (by rfl)]
              unfold Oper.wp execOp
              go_simp
              clear s0 s1 s2 fz
              have HRst22 := Lib.hid (HRap21.out.set2 (K' := K6) (nk' := k + 1) (ck' := ck6))
              have HOst22 := Lib.hid (HOap21.out.keep (w' := ap21.setCell ⟨b, 2, none⟩ (.slice K6 (k + 1) ck6)) (by simp [World.setCell]) fun y hy _ => Below.heap_setCell ap21 _ _ y hy.2)
              have HSst22 := Lib.hid (grown_set HSap21.out 2 (.slice K6 (k + 1) ck6))
              refine hK.out _ _ trivial (fun _ => ?_)
              clear hK
              try simp only [List.getElem_toArray, List.getElem_cons_succ, List.getElem_cons_zero, Act.put, List.setIfInBounds_toArray, List.set_cons_zero, List.set_cons_succ]
              refine wpAnyH_done (by kernel_rfl) ?_ _
              exact ⟨(A2, n2, c2, cl19.heap.size, K6, ck6), rfl, Lib.hid ⟨HRst22.out, by rw [HTK.out]; exact HOst22.out, HSst22.out⟩⟩
            · skip
              simp only [List.getElem_toArray, List.getElem_cons_succ, List.getElem_cons_zero]
              obtain ⟨t0, t1⟩ := HKwd.out.cs
              rw [if_pos (by rfl)]
              unfold Oper.wp execOp
              go_simp
              clear t0 t1
              refine hK.out _ _ trivial (fun _ => ?_)
              clear hK
              try simp only [List.getElem_toArray, List.getElem_cons_succ, List.getElem_cons_zero, Act.put, List.setIfInBounds_toArray, List.set_cons_zero, List.set_cons_succ]
              refine wpAnyH_ready (rs := [1, 6]) (by kernel_rfl) (by simp) ?_
              refine (AllReadyH.cons rfl (fun K' hK => ?_) (AllReadyH.cons rfl (fun K' hK => ?_) AllReadyH.nil))
              · skip
                simp only [List.getElem_toArray, List.getElem_cons_succ, List.getElem_cons_zero]
                obtain ⟨s0, s1, s2⟩ := HRwd.out.cs
                rw [if_pos (by rfl)]
                unfold Oper.wp execOp
                go_simp
                clear s0 s1 s2
                refine hK.out _ _ trivial (fun _ => ?_)
                clear hK
                try simp only [List.getElem_toArray, List.getElem_cons_succ, List.getElem_cons_zero, Act.put, List.setIfInBounds_toArray, List.set_cons_zero, List.set_cons_succ]
                refine wpAnyH_ready (rs := [6]) (by kernel_rfl) (by simp) ?_
                refine (AllReadyH.cons rfl (fun K' hK => ?_) AllReadyH.nil)
                simp only [List.getElem_toArray, List.getElem_cons_succ, List.getElem_cons_zero]
                go_simp
                refine (clone_any QA (kd ks k).key qn qc wd HQwd.out HQ6.out).mono ?_
                rintro e' cl23 ⟨A2, n2, c2, rfl, hX, hb⟩
                have HRcl23 := Lib.hid (HRwd.out.below hb HRwd.out.lt); have HKcl23 := Lib.hid (HKwd.out.below hb HKwd.out.lt); have HOcl23 := Lib.hid (HOwd.out.below hb)
                have HUcl23 : Hid (KdIs (fun y => B0 ≤ y ∧ y ≠ b) cl23 ⟨qg, A2, n2, c2⟩ (kd ks k)) := Lib.hid ⟨HQG.out, hX.any, (txt_inn hX).mono fun y hy => ⟨by have h1 := hy.1; have h2 := (Nat.le_trans HB0w.out HSwd.out.size); omega, by have h1 := hy.1; have h2 := HRwd.out.lt; omega⟩⟩
                have HFcl23 : Hid (Far (Value.slice K5 k ck).ownBlock A2 n2) := Lib.hid (far_older (lo := wd.heap.size) ((txt_inn hX).mono fun y hy => hy.1) fun z hz => (HOwd.out.lt z hz).2)
                have HScl23 := Lib.hid (grown_below HSwd.out hb)
                clear hX hb
                refine hK.out _ _ trivial (fun _ => ?_)
                clear hK
                try simp only [List.getElem_toArray, List.getElem_cons_succ, List.getElem_cons_zero, Act.put, List.setIfInBounds_toArray, List.set_cons_zero, List.set_cons_succ]
                refine wpAnyH_take (i := 7) (v := ?ve18) rfl (by kernel_rfl) (by kernel_rfl) (by kernel_rfl) (fun _ _ _ h => h) (Or.inl ⟨by rfl, ?ye18⟩) trivial ?re18
                case ye18 => (intro w' hSw; clear hSw; go_simp; try with_reducible rfl)
                simp only [List.getElem_toArray, List.getElem_cons_succ, List.getElem_cons_zero, Act.put, List.setIfInBounds_toArray, List.set_cons_zero, List.set_cons_succ]
                refine wpAnyH_ready (rs := [8]) (by kernel_rfl) (by simp) ?_
                refine (AllReadyH.cons rfl (fun K' hK => ?_) AllReadyH.nil)
                simp only [List.getElem_toArray, List.getElem_cons_succ, List.getElem_cons_zero]
                go_simp
                have ba := (Below.refl cl23.heap.size cl23).alloc (Nat.le_refl _) (.cells (KdQ.cs ⟨qg, A2, n2, c2⟩) 44)
                have ho := one_kd cl23 (fun y => B0 ≤ y ∧ y ≠ b) ⟨qg, A2, n2, c2⟩ (kd ks k) HUcl23.out
                obtain ⟨li24, hwa⟩ : ∃ wa, cl23.alloc (.cells (KdQ.cs ⟨qg, A2, n2, c2⟩) 44) = wa := ⟨_, rfl⟩
                rw [hwa] at ba ho
                dsimp only [KdQ.cs] at hwa
                try rw [hwa]
                have HRli24 := Lib.hid (HRcl23.out.below ba HRcl23.out.lt); have HKli24 := Lib.hid (HKcl23.out.below ba HKcl23.out.lt); have HOli24 := Lib.hid (HOcl23.out.below ba); have HMli24 := Lib.hid ho; have HUli24 := Lib.hid (HUcl23.out.below ba); have HFli24 := Lib.hid HFcl23.out
                have HSli24 := Lib.hid (grown_below HScl23.out ba)
                clear hwa ba ho
                refine hK.out _ _ trivial (fun _ => ?_)
                clear hK
                try simp only [List.getElem_toArray, List.getElem_cons_succ, List.getElem_cons_zero, Act.put, List.setIfInBounds_toArray, List.set_cons_zero, List.set_cons_succ]
                refine wpAnyH_ready (rs := [9]) (by kernel_rfl) (by simp) ?_
                refine (AllReadyH.cons rfl (fun K' hK => ?_) AllReadyH.nil)
                simp only [List.getElem_toArray, List.getElem_cons_succ, List.getElem_cons_zero]
                rw [if_pos (by rfl)]
                refine wp_append_kd (.tmp 20) (.tmp 27) rfl (fun y => B0 ≤ y ∧ y ≠ b) wb.heap.size k 1 1 (.slice K5 k ck) (ks.take k) [kd ks k] (some ⟨cl23.heap.size, 0, none⟩) rfl rfl HOli24.out HMli24.out.1 (fun ad e j q' hj hat => by rw [HMli24.out.2 ad e j q' hj hat]; exact ⟨HUli24.out.inn, HFli24.out⟩) (by have := HN4.out; omega) HSli24.out.size ⟨(Nat.le_trans HB0w.out HSli24.out.size), by have := HRli24.out.lt; omega⟩ ?_
                intro v' ap25 hO hG hat
                obtain ⟨K6, ck6, rfl⟩ := hO.slice
                have HRap25 : Hid (RkB ⟨g, A1, n1, c1, K5, k, ck⟩ ap25 b) := Lib.hid ((hG.block b HRli24.out.lt (fun e => (HOli24.out.own b e.symm).2 rfl)).trans HRli24.out)
                have HOap25 := Lib.hid hO
                have HSap25 := Lib.hid (grown_own HSli24.out HOli24.out hG)
                clear hO hG hat
                obtain ⟨s0, s1, s2⟩ := HRap25.out.cs
                have fz := HRap25.out.frozen 2
                refine hK.out _ _ trivial (fun _ => ?_)
                clear hK
                try simp only [List.getElem_toArray, List.getElem_cons_succ, List.getElem_cons_zero, Act.put, List.setIfInBounds_toArray, List.set_cons_zero, List.set_cons_succ]
                refine wpAnyH_take (i := 10) (v := ?ve19) rfl (by kernel_rfl) (by kernel_rfl) (by kernel_rfl) (fun _ _ _ h => h) (Or.inl ⟨by rfl, ?ye19⟩) trivial ?re19
                case ye19 => (intro w' hSw; clear hSw; go_simp; try with_reducible rfl)
                simp only [List.getElem_toArray, List.getElem_cons_succ, List.getElem_cons_zero, Act.put, List.setIfInBounds_toArray, List.set_cons_zero, List.set_cons_succ]
                refine wpAnyH_ready (rs := [11]) (by kernel_rfl) (by simp) ?_
                refine (AllReadyH.cons rfl (fun K' hK => ?_) AllReadyH.nil)
                simp only [List.getElem_toArray, List.getElem_cons_succ, List.getElem_cons_zero]
                rw [if_pos (by rfl)]
                unfold Oper.wp execOp
                go_simp
                clear s0 s1 s2 fz
                have HRst26 := Lib.hid (HRap25.out.set2 (K' := K6) (nk' := k + 1) (ck' := ck6))
                have HOst26 := Lib.hid (HOap25.out.keep (w' := ap25.setCell ⟨b, 2, none⟩ (.slice K6 (k + 1) ck6)) (by simp [World.setCell]) fun y hy _ => Below.heap_setCell ap25 _ _ y hy.2)
                have HSst26 := Lib.hid (grown_set HSap25.out 2 (.slice K6 (k + 1) ck6))
                refine hK.out _ _ trivial (fun _ => ?_)
                clear hK
                try simp only [List.getElem_toArray, List.getElem_cons_succ, List.getElem_cons_zero, Act.put, List.setIfInBounds_toArray, List.set_cons_zero, List.set_cons_succ]
                refine wpAnyH_done (by kernel_rfl) ?_ _
                exact ⟨(A2, n2, c2, cl23.heap.size, K6, ck6), rfl, Lib.hid ⟨HRst26.out, by rw [HTK.out]; exact HOst26.out, HSst26.out⟩⟩
              · skip
                simp only [List.getElem_toArray, List.getElem_cons_succ, List.getElem_cons_zero]
                go_simp
                refine (clone_any QA (kd ks k).key qn qc wd HQwd.out HQ6.out).mono ?_
                rintro e' cl27 ⟨A2, n2, c2, rfl, hX, hb⟩
                have HRcl27 := Lib.hid (HRwd.out.below hb HRwd.out.lt); have HKcl27 := Lib.hid (HKwd.out.below hb HKwd.out.lt); have HOcl27 := Lib.hid (HOwd.out.below hb)
                have HUcl27 : Hid (KdIs (fun y => B0 ≤ y ∧ y ≠ b) cl27 ⟨qg, A2, n2, c2⟩ (kd ks k)) := Lib.hid ⟨HQG.out, hX.any, (txt_inn hX).mono fun y hy => ⟨by have h1 := hy.1; have h2 := (Nat.le_trans HB0w.out HSwd.out.size); omega, by have h1 := hy.1; have h2 := HRwd.out.lt; omega⟩⟩
                have HFcl27 : Hid (Far (Value.slice K5 k ck).ownBlock A2 n2) := Lib.hid (far_older (lo := wd.heap.size) ((txt_inn hX).mono fun y hy => hy.1) fun z hz => (HOwd.out.lt z hz).2)
                have HScl27 := Lib.hid (grown_below HSwd.out hb)
                clear hX hb
                refine hK.out _ _ trivial (fun _ => ?_)
                clear hK
                try simp only [List.getElem_toArray, List.getElem_cons_succ, List.getElem_cons_zero, Act.put, List.setIfInBounds_toArray, List.set_cons_zero, List.set_cons_succ]
                refine wpAnyH_take (i := 7) (v := ?ve20) rfl (by kernel_rfl) (by kernel_rfl) (by kernel_rfl) (fun _ _ _ h => h) (Or.inl ⟨by rfl, ?ye20⟩) trivial ?re20
                case ye20 => (intro w' hSw; clear hSw; go_simp; try with_reducible rfl)
                simp only [List.getElem_toArray, List.getElem_cons_succ, List.getElem_cons_zero, Act.put, List.setIfInBounds_toArray, List.set_cons_zero, List.set_cons_succ]
                refine wpAnyH_ready (rs := [1, 8]) (by kernel_rfl) (by simp) ?_
                refine (AllReadyH.cons rfl (fun K' hK => ?_) (AllReadyH.cons rfl (fun K' hK => ?_) AllReadyH.nil))
                · skip
                  simp only [List.getElem_toArray, List.getElem_cons_succ, List.getElem_cons_zero]
                  obtain ⟨s0, s1, s2⟩ := HRcl27.out.cs
                  rw [if_pos (by rfl)]
                  unfold Oper.wp execOp
                  go_simp
                  clear s0 s1 s2
                  refine hK.out _ _ trivial (fun _ => ?_)
                  clear hK
                  try simp only [List.getElem_toArray, List.getElem_cons_succ, List.getElem_cons_zero, Act.put, List.setIfInBounds_toArray, List.set_cons_zero, List.set_cons_succ]
                  refine wpAnyH_ready (rs := [8]) (by kernel_rfl) (by simp) ?_
                  refine (AllReadyH.cons rfl (fun K' hK => ?_) AllReadyH.nil)
                  simp only [List.getElem_toArray, List.getElem_cons_succ, List.getElem_cons_zero]
                  go_simp
                  have ba := (Below.refl cl27.heap.size cl27).alloc (Nat.le_refl _) (.cells (KdQ.cs ⟨qg, A2, n2, c2⟩) 44)
                  have ho := one_kd cl27 (fun y => B0 ≤ y ∧ y ≠ b) ⟨qg, A2, n2, c2⟩ (kd ks k) HUcl27.out
                  obtain ⟨li28, hwa⟩ : ∃ wa, cl27.alloc (.cells (KdQ.cs ⟨qg, A2, n2, c2⟩) 44) = wa := ⟨_, rfl⟩
                  rw [hwa] at ba ho
                  dsimp only [KdQ.cs] at hwa
                  try rw [hwa]
                  have HRli28 := Lib.hid (HRcl27.out.below ba HRcl27.out.lt); have HKli28 := Lib.hid (HKcl27.out.below ba HKcl27.out.lt); have HOli28 := Lib.hid (HOcl27.out.below ba); have HMli28 := Lib.hid ho; have HUli28 := Lib.hid (HUcl27.out.below ba); have HFli28 := Lib.hid HFcl27.out
                  have HSli28 := Lib.hid (grown_below HScl27.out ba)
                  clear hwa ba ho
                  refine hK.out _ _ trivial (fun _ => ?_)
                  clear hK
                  try simp only [List.getElem_toArray, List.getElem_cons_succ, List.getElem_cons_zero, Act.put, List.setIfInBounds_toArray, List.set_cons_zero, List.set_cons_succ]
                  refine wpAnyH_ready (rs := [9]) (by kernel_rfl) (by simp) ?_
                  refine (AllReadyH.cons rfl (fun K' hK => ?_) AllReadyH.nil)
                  simp only [List.getElem_toArray, List.getElem_cons_succ, List.getElem_cons_zero]
                  rw [if_pos (by rfl)]
                  refine wp_append_kd (.tmp 20) (.tmp 27) rfl (fun y => B0 ≤ y ∧ y ≠ b) wb.heap.size k 1 1 (.slice K5 k ck) (ks.take k) [kd ks k] (some ⟨cl27.heap.size, 0, none⟩) rfl rfl HOli28.out HMli28.out.1 (fun ad e j q' hj hat => by rw [HMli28.out.2 ad e j q' hj hat]; exact ⟨HUli28.out.inn, HFli28.out⟩) (by have := HN4.out; omega) HSli28.out.size ⟨(Nat.le_trans HB0w.out HSli28.out.size), by have := HRli28.out.lt; omega⟩ ?_
                  intro v' ap29 hO hG hat
                  obtain ⟨K6, ck6, rfl⟩ := hO.slice
                  have HRap29 : Hid (RkB ⟨g, A1, n1, c1, K5, k, ck⟩ ap29 b) := Lib.hid ((hG.block b HRli28.out.lt (fun e => (HOli28.out.own b e.symm).2 rfl)).trans HRli28.out)
                  have HOap29 := Lib.hid hO
                  have HSap29 := Lib.hid (grown_own HSli28.out HOli28.out hG)
                  clear hO hG hat
                  obtain ⟨s0, s1, s2⟩ := HRap29.out.cs
                  have fz := HRap29.out.frozen 2
                  refine hK.out _ _ trivial (fun _ => ?_)
                  clear hK
                  try simp only [List.getElem_toArray, List.getElem_cons_succ, List.getElem_cons_zero, Act.put, List.setIfInBounds_toArray, List.set_cons_zero, List.set_cons_succ]
                  refine wpAnyH_take (i := 10) (v := ?ve21) rfl (by kernel_rfl) (by kernel_rfl) (by kernel_rfl) (fun _ _ _ h => h) (Or.inl ⟨by rfl, ?ye21⟩) trivial ?re21
                  case ye21 => (intro w' hSw; clear hSw; go_simp; try with_reducible rfl)
                  simp only [List.getElem_toArray, List.getElem_cons_succ, List.getElem_cons_zero, Act.put, List.setIfInBounds_toArray, List.set_cons_zero, List.set_cons_succ]
                  refine wpAnyH_ready (rs := [11]) (by kernel_rfl) (by simp) ?_
                  refine (AllReadyH.cons rfl (fun K' hK => ?_) AllReadyH.nil)
                  simp only [List.getElem_toArray, List.getElem_cons_succ, List.getElem_cons_zero]
                  rw [if_pos (by rfl)]
                  unfold Oper.wp execOp
                  go_simp
                  clear s0 s1 s2 fz
                  have HRst30 := Lib.hid (HRap29.out.set2 (K' := K6) (nk' := k + 1) (ck' := ck6))
                  have HOst30 := Lib.hid (HOap29.out.keep (w' := ap29.setCell ⟨b, 2, none⟩ (.slice K6 (k + 1) ck6)) (by simp [World.setCell]) fun y hy _ => Below.heap_setCell ap29 _ _ y hy.2)
                  have HSst30 := Lib.hid (grown_set HSap29.out 2 (.slice K6 (k + 1) ck6))
                  refine hK.out _ _ trivial (fun _ => ?_)
                  clear hK
                  try simp only [List.getElem_toArray, List.getElem_cons_succ, List.getElem_cons_zero, Act.put, List.setIfInBounds_toArray, List.set_cons_zero, List.set_cons_succ]
                  refine wpAnyH_done (by kernel_rfl) ?_ _
                  exact ⟨(A2, n2, c2, cl27.heap.size, K6, ck6), rfl, Lib.hid ⟨HRst30.out, by rw [HTK.out]; exact HOst30.out, HSst30.out⟩⟩
                · skip
                  simp only [List.getElem_toArray, List.getElem_cons_succ, List.getElem_cons_zero]
                  go_simp
                  have ba := (Below.refl cl27.heap.size cl27).alloc (Nat.le_refl _) (.cells (KdQ.cs ⟨qg, A2, n2, c2⟩) 44)
                  have ho := one_kd cl27 (fun y => B0 ≤ y ∧ y ≠ b) ⟨qg, A2, n2, c2⟩ (kd ks k) HUcl27.out
                  obtain ⟨li31, hwa⟩ : ∃ wa, cl27.alloc (.cells (KdQ.cs ⟨qg, A2, n2, c2⟩) 44) = wa := ⟨_, rfl⟩
                  rw [hwa] at ba ho
                  dsimp only [KdQ.cs] at hwa
                  try rw [hwa]
                  have HRli31 := Lib.hid (HRcl27.out.below ba HRcl27.out.lt); have HKli31 := Lib.hid (HKcl27.out.below ba HKcl27.out.lt); have HOli31 := Lib.hid (HOcl27.out.below ba); have HMli31 := Lib.hid ho; have HUli31 := Lib.hid (HUcl27.out.below ba); have HFli31 := Lib.hid HFcl27.out
                  have HSli31 := Lib.hid (grown_below HScl27.out ba)
                  clear hwa ba ho
                  refine hK.out _ _ trivial (fun _ => ?_)
                  clear hK
                  try simp only [List.getElem_toArray, List.getElem_cons_succ, List.getElem_cons_zero, Act.put, List.setIfInBounds_toArray, List.set_cons_zero, List.set_cons_succ]
                  refine wpAnyH_ready (rs := [1]) (by kernel_rfl) (by simp) ?_
                  refine (AllReadyH.cons rfl (fun K' hK => ?_) AllReadyH.nil)
                  simp only [List.getElem_toArray, List.getElem_cons_succ, List.getElem_cons_zero]
                  obtain ⟨s0, s1, s2⟩ := HRli31.out.cs
                  rw [if_pos (by rfl)]
                  unfold Oper.wp execOp
                  go_simp
                  clear s0 s1 s2
                  refine hK.out _ _ trivial (fun _ => ?_)
                  clear hK
                  try simp only [List.getElem_toArray, List.getElem_cons_succ, List.getElem_cons_zero, Act.put, List.setIfInBounds_toArray, List.set_cons_zero, List.set_cons_succ]
                  refine wpAnyH_ready (rs := [9]) (by kernel_rfl) (by simp) ?_
                  refine (AllReadyH.cons rfl (fun K' hK => ?_) AllReadyH.nil)
                  simp only [List.getElem_toArray, List.getElem_cons_succ, List.getElem_cons_zero]
                  rw [if_pos (by rfl)]
                  refine wp_append_kd (.tmp 20) (.tmp 27) rfl (fun y => B0 ≤ y ∧ y ≠ b) wb.heap.size k 1 1 (.slice K5 k ck) (ks.take k) [kd ks k] (some ⟨cl27.heap.size, 0, none⟩) rfl rfl HOli31.out HMli31.out.1 (fun ad e j q' hj hat => by rw [HMli31.out.2 ad e j q' hj hat]; exact ⟨HUli31.out.inn, HFli31.out⟩) (by have := HN4.out; omega) HSli31.out.size ⟨(Nat.le_trans HB0w.out HSli31.out.size), by have := HRli31.out.lt; omega⟩ ?_
                  intro v' ap32 hO hG hat
                  obtain ⟨K6, ck6, rfl⟩ := hO.slice
                  have HRap32 : Hid (RkB ⟨g, A1, n1, c1, K5, k, ck⟩ ap32 b) := Lib.hid ((hG.block b HRli31.out.lt (fun e => (HOli31.out.own b e.symm).2 rfl)).trans HRli31.out)
                  have HOap32 := Lib.hid hO
                  have HSap32 := Lib.hid (grown_own HSli31.out HOli31.out hG)
                  clear hO hG hat
                  obtain ⟨s0, s1, s2⟩ := HRap32.out.cs
                  have fz := HRap32.out.frozen 2
                  refine hK.out _ _ trivial (fun _ => ?_)
                  clear hK
                  try simp only [List.getElem_toArray, List.getElem_cons_succ, List.getElem_cons_zero, Act.put, List.setIfInBounds_toArray, List.set_cons_zero, List.set_cons_succ]
                  refine wpAnyH_take (i := 10) (v := ?ve22) rfl (by kernel_rfl) (by kernel_rfl) (by kernel_rfl) (fun _ _ _ h => h) (Or.inl ⟨by rfl, ?ye22⟩) trivial ?re22
                  case ye22 => (intro w' hSw; clear hSw; go_simp; try with_reducible rfl)
                  simp only [List.getElem_toArray, List.getElem_cons_succ, List.getElem_cons_zero, Act.put, List.setIfInBounds_toArray, List.set_cons_zero, List.set_cons_succ]
                  refine wpAnyH_ready (rs := [11]) (by kernel_rfl) (by simp) ?_
                  refine (AllReadyH.cons rfl (fun K' hK => ?_) AllReadyH.nil)
                  simp only [List.getElem_toArray, List.getElem_cons_succ, List.getElem_cons_zero]
                  rw [if_pos (by rfl)]
                  unfold Oper.wp execOp
                  go_simp
                  clear s0 s1 s2 fz
                  have HRst33 := Lib.hid (HRap32.out.set2 (K' := K6) (nk' := k + 1) (ck' := ck6))
                  have HOst33 := Lib.hid (HOap32.out.keep (w' := ap32.setCell ⟨b, 2, none⟩ (.slice K6 (k + 1) ck6)) (by simp [World.setCell]) fun y hy _ => Below.heap_setCell ap32 _ _ y hy.2)
                  have HSst33 := Lib.hid (grown_set HSap32.out 2 (.slice K6 (k + 1) ck6))
                  refine hK.out _ _ trivial (fun _ => ?_)
                  clear hK
                  try simp only [List.getElem_toArray, List.getElem_cons_succ, List.getElem_cons_zero, Act.put, List.setIfInBounds_toArray, List.set_cons_zero, List.set_cons_succ]
                  refine wpAnyH_done (by kernel_rfl) ?_ _
                  exact ⟨(A2, n2, c2, cl27.heap.size, K6, ck6), rfl, Lib.hid ⟨HRst33.out, by rw [HTK.out]; exact HOst33.out, HSst33.out⟩⟩
          · skip
            simp only [List.getElem_toArray, List.getElem_cons_succ, List.getElem_cons_zero]
            obtain ⟨t0, t1⟩ := HKwd.out.cs
            rw [if_pos (by rfl)]
            unfold Oper.wp execOp
            go_simp
            clear t0 t1
            refine hK.out _ _ trivial (fun _ => ?_)
            clear hK
            try simp only [List.getElem_toArray, List.getElem_cons_succ, List.getElem_cons_zero, Act.put, List.setIfInBounds_toArray, List.set_cons_zero, List.set_cons_succ]
            refine wpAnyH_ready (rs := [1, 3, 6]) (by kernel_rfl) (by simp) ?_
            refine (AllReadyH.cons rfl (fun K' hK => ?_) (AllReadyH.cons rfl (fun K' hK => ?_) (AllReadyH.cons rfl (fun K' hK => ?_) AllReadyH.nil)))
            · skip
              simp only [List.getElem_toArray, List.getElem_cons_succ, List.getElem_cons_zero]
              obtain ⟨s0, s1, s2⟩ := HRwd.out.cs
              rw [if_pos (by rfl)]
              unfold Oper.wp execOp
              go_simp
              clear s0 s1 s2
              refine hK.out _ _ trivial (fun _ => ?_)
              clear hK
              try simp only [List.getElem_toArray, List.getElem_cons_succ, List.getElem_cons_zero, Act.put, List.setIfInBounds_toArray, List.set_cons_zero, List.set_cons_succ]
              refine wpAnyH_ready (rs := [3, 6]) (by kernel_rfl) (by simp) ?_
              refine (AllReadyH.cons rfl (fun K' hK => ?_) (AllReadyH.cons rfl (fun K' hK => ?_) AllReadyH.nil))
              · skip
                simp only [List.getElem_toArray, List.getElem_cons_succ, List.getElem_cons_zero]
                obtain ⟨t0, t1⟩ := HKwd.out.cs
                rw [if_pos (by rfl)]
                unfold Oper.wp execOp
                go_simp
                clear t0 t1
                refine hK.out _ _ trivial (fun _ => ?_)
                clear hK
                try simp only [List.getElem_toArray, List.getElem_cons_succ, List.getElem_cons_zero, Act.put, List.setIfInBounds_toArray, List.set_cons_zero, List.set_cons_succ]
                refine wpAnyH_ready (rs := [6]) (by kernel_rfl) (by simp) ?_
                refine (AllReadyH.cons rfl (fun K' hK => ?_) AllReadyH.nil)
                simp only [List.getElem_toArray, List.getElem_cons_succ, List.getElem_cons_zero]
                go_simp
                refine (clone_any QA (kd ks k).key qn qc wd HQwd.out HQ6.out).mono ?_
                rintro e' cl34 ⟨A2, n2, c2, rfl, hX, hb⟩
                have HRcl34 := Lib.hid (HRwd.out.below hb HRwd.out.lt); have HKcl34 := Lib.hid (HKwd.out.below hb HKwd.out.lt); have HOcl34 := Lib.hid (HOwd.out.below hb)
                have HUcl34 : Hid (KdIs (fun y => B0 ≤ y ∧ y ≠ b) cl34 ⟨qg, A2, n2, c2⟩ (kd ks k)) := Lib.hid ⟨HQG.out, hX.any, (txt_inn hX).mono fun y hy => ⟨by have h1 := hy.1; have h2 := (Nat.le_trans HB0w.out HSwd.out.size); omega, by have h1 := hy.1; have h2 := HRwd.out.lt; omega⟩⟩
                have HFcl34 : Hid (Far (Value.slice K5 k ck).ownBlock A2 n2) := Lib.hid (far_older (lo := wd.heap.size) ((txt_inn hX).mono fun y hy => hy.1) fun z hz => (HOwd.out.lt z hz).2)
                have HScl34 := Lib.hid (grown_below HSwd.out hb)
                clear hX hb
                refine hK.out _ _ trivial (fun _ => ?_)
                clear hK
                try simp only [List.getElem_toArray, List.getElem_cons_succ, List.getElem_cons_zero, Act.put, List.setIfInBounds_toArray, List.set_cons_zero, List.set_cons_succ]
                refine wpAnyH_take (i := 7) (v := ?ve23) rfl (by kernel_rfl) (by kernel_rfl) (by kernel_rfl) (fun _ _ _ h => h) (Or.inl ⟨by rfl, ?ye23⟩) trivial ?re23
                case ye23 => (intro w' hSw; clear hSw; go_simp; try with_reducible rfl)
                simp only [List.getElem_toArray, List.getElem_cons_succ, List.getElem_cons_zero, Act.put, List.setIfInBounds_toArray, List.set_cons_zero, List.set_cons_succ]
                refine wpAnyH_ready (rs := [8]) (by kernel_rfl) (by simp) ?_
                refine (AllReadyH.cons rfl (fun K' hK => ?_) AllReadyH.nil)
                simp only [List.getElem_toArray, List.getElem_cons_succ, List.getElem_cons_zero]
                go_simp
                have ba := (Below.refl cl34.heap.size cl34).alloc (Nat.le_refl _) (.cells (KdQ.cs ⟨qg, A2, n2, c2⟩) 44)
                have ho := one_kd cl34 (fun y => B0 ≤ y ∧ y ≠ b) ⟨qg, A2, n2, c2⟩ (kd ks k) HUcl34.out
                obtain ⟨li35, hwa⟩ : ∃ wa, cl34.alloc (.cells (KdQ.cs ⟨qg, A2, n2, c2⟩) 44) = wa := ⟨_, rfl⟩
                rw [hwa] at ba ho
                dsimp only [KdQ.cs] at hwa
                try rw [hwa]
                have HRli35 := Lib.hid (HRcl34.out.below ba HRcl34.out.lt); have HKli35 := Lib.hid (HKcl34.out.below ba HKcl34.out.lt); have HOli35 := Lib.hid (HOcl34.out.below ba); have HMli35 := Lib.hid ho; have HUli35 := Lib.hid (HUcl34.out.below ba); have HFli35 := Lib.hid HFcl34.out
                have HSli35 := Lib.hid (grown_below HScl34.out ba)
                clear hwa ba ho
                refine hK.out _ _ trivial (fun _ => ?_)
                clear hK
                try simp only [List.getElem_toArray, List.getElem_cons_succ, List.getElem_cons_zero, Act.put, List.setIfInBounds_toArray, List.set_cons_zero, List.set_cons_succ]
                refine wpAnyH_ready (rs := [9]) (by kernel_rfl) (by simp) ?_
                refine (AllReadyH.cons rfl (fun K' hK => ?_) AllReadyH.nil)
                simp only [List.getElem_toArray, List.getElem_cons_succ, List.getElem_cons_zero]
                rw [if_pos (by rfl)]
                refine wp_append_kd (.tmp 20) (.tmp 27) rfl (fun y => B0 ≤ y ∧ y ≠ b) wb.heap.size k 1 1 (.slice K5 k ck) (ks.take k) [kd ks k] (some ⟨cl34.heap.size, 0, none⟩) rfl rfl HOli35.out HMli35.out.1 (fun ad e j q' hj hat => by rw [HMli35.out.2 ad e j q' hj hat]; exact ⟨HUli35.out.inn, HFli35.out⟩) (by have := HN4.out; omega) HSli35.out.size ⟨(Nat.le_trans HB0w.out HSli35.out.size), by have := HRli35.out.lt; omega⟩ ?_
                intro v' ap36 hO hG hat
                obtain ⟨K6, ck6, rfl⟩ := hO.slice
                have HRap36 : Hid (RkB ⟨g, A1, n1, c1, K5, k, ck⟩ ap36 b) := Lib.hid ((hG.block b HRli35.out.lt (fun e => (HOli35.out.own b e.symm).2 rfl)).trans HRli35.out)
                have HOap36 := Lib.hid hO
                have HSap36 := Lib.hid (grown_own HSli35.out HOli35.out hG)
                clear hO hG hat
                obtain ⟨s0, s1, s2⟩ := HRap36.out.cs
                have fz := HRap36.out.frozen 2
                refine hK.out _ _ trivial (fun _ => ?_)
                clear hK
                try simp only [List.getElem_toArray, List.getElem_cons_succ, List.getElem_cons_zero, Act.put, List.setIfInBounds_toArray, List.set_cons_zero, List.set_cons_succ]
                refine wpAnyH_take (i := 10) (v := ?ve24) rfl (by kernel_rfl) (by kernel_rfl) (by kernel_rfl) (fun _ _ _ h => h) (Or.inl ⟨by rfl, ?ye24⟩) trivial ?re24
                case ye24 => (intro w' hSw; clear hSw; go_simp; try with_reducible rfl)
                simp only [List.getElem_toArray, List.getElem_cons_succ, List.getElem_cons_zero, Act.put, List.setIfInBounds_toArray, List.set_cons_zero, List.set_cons_succ]
                refine wpAnyH_ready (rs := [11]) (by kernel_rfl) (by simp) ?_
                refine (AllReadyH.cons rfl (fun K' hK => ?_) AllReadyH.nil)
                simp only [List.getElem_toArray, List.getElem_cons_succ, List.getElem_cons_zero]
                rw [if_pos (by rfl)]
                unfold Oper.wp execOp
                go_simp
                clear s0 s1 s2 fz
                have HRst37 := Lib.hid (HRap36.out.set2 (K' := K6) (nk' := k + 1) (ck' := ck6))
                have HOst37 := Lib.hid (HOap36.out.keep (w' := ap36.setCell ⟨b, 2, none⟩ (.slice K6 (k + 1) ck6)) (by simp [World.setCell]) fun y hy _ => Below.heap_setCell ap36 _ _ y hy.2)
                have HSst37 := Lib.hid (grown_set HSap36.out 2 (.slice K6 (k + 1) ck6))
                refine hK.out _ _ trivial (fun _ => ?_)
                clear hK
                try simp only [List.getElem_toArray, List.getElem_cons_succ, List.getElem_cons_zero, Act.put, List.setIfInBounds_toArray, List.set_cons_zero, List.set_cons_succ]
                refine wpAnyH_done (by kernel_rfl) ?_ _
                exact ⟨(A2, n2, c2, cl34.heap.size, K6, ck6), rfl, Lib.hid ⟨HRst37.out, by rw [HTK.out]; exact HOst37.out, HSst37.out⟩⟩
              · skip
                simp only [List.getElem_toArray, List.getElem_cons_succ, List.getElem_cons_zero]
                go_simp
                refine (clone_any QA (kd ks k).key qn qc wd HQwd.out HQ6.out).mono ?_
                rintro e' cl38 ⟨A2, n2, c2, rfl, hX, hb⟩
                have HRcl38 := Lib.hid (HRwd.out.below hb HRwd.out.lt); have HKcl38 := Lib.hid (HKwd.out.below hb HKwd.out.lt); have HOcl38 := Lib.hid (HOwd.out.below hb)
                have HUcl38 : Hid (KdIs (fun y => B0 ≤ y ∧ y ≠ b) cl38 ⟨qg, A2, n2, c2⟩ (kd ks k)) := Lib.hid ⟨HQG.out, hX.any, (txt_inn hX).mono fun y hy => ⟨by have h1 := hy.1; have h2 := (Nat.le_trans HB0w.out HSwd.out.size); omega, by have h1 := hy.1; have h2 := HRwd.out.lt; omega⟩⟩
                have HFcl38 : Hid (Far (Value.slice K5 k ck).ownBlock A2 n2) := Lib.hid (far_older (lo := wd.heap.size) ((txt_inn hX).mono fun y hy => hy.1) fun z hz => (HOwd.out.lt z hz).2)
                have HScl38 := Lib.hid (grown_below HSwd.out hb)
                clear hX hb
                refine hK.out _ _ trivial (fun _ => ?_)
                clear hK
                try simp only [List.getElem_toArray, List.getElem_cons_succ, List.getElem_cons_zero, Act.put, List.setIfInBounds_toArray, List.set_cons_zero, List.set_cons_succ]
                refine wpAnyH_ready (rs := [3]) (by kernel_rfl) (by simp) ?_
                refine (AllReadyH.cons rfl (fun K' hK => ?_) AllReadyH.nil)
                simp only [List.getElem_toArray, List.getElem_cons_succ, List.getElem_cons_zero]
                obtain ⟨t0, t1⟩ := HKcl38.out.cs
                rw [if_pos (by rfl)]
                unfold Oper.wp execOp
                go_simp
                clear t0 t1
                refine hK.out _ _ trivial (fun _ => ?_)
                clear hK
                try simp only [List.getElem_toArray, List.getElem_cons_succ, List.getElem_cons_zero, Act.put, List.setIfInBounds_toArray, List.set_cons_zero, List.set_cons_succ]
                refine wpAnyH_take (i := 7) (v := ?ve25) rfl (by kernel_rfl) (by kernel_rfl) (by kernel_rfl) (fun _ _ _ h => h) (Or.inl ⟨by rfl, ?ye25⟩) trivial ?re25
                case ye25 => (intro w' hSw; clear hSw; go_simp; try with_reducible rfl)
                simp only [List.getElem_toArray, List.getElem_cons_succ, List.getElem_cons_zero, Act.put, List.setIfInBounds_toArray, List.set_cons_zero, List.set_cons_succ]
                refine wpAnyH_ready (rs := [8]) (by kernel_rfl) (by simp) ?_
                refine (AllReadyH.cons rfl (fun K' hK => ?_) AllReadyH.nil)
                simp only [List.getElem_toArray, List.getElem_cons_succ, List.getElem_cons_zero]
                go_simp
                have ba := (Below.refl cl38.heap.size cl38).alloc (Nat.le_refl _) (.cells (KdQ.cs ⟨qg, A2, n2, c2⟩) 44)
                have ho := one_kd cl38 (fun y => B0 ≤ y ∧ y ≠ b) ⟨qg, A2, n2, c2⟩ (kd ks k) HUcl38.out
                obtain ⟨li39, hwa⟩ : ∃ wa, cl38.alloc (.cells (KdQ.cs ⟨qg, A2, n2, c2⟩) 44) = wa := ⟨_, rfl⟩
                rw [hwa] at ba ho
                dsimp only [KdQ.cs] at hwa
                try rw [hwa]
                have HRli39 := Lib.hid (HRcl38.out.below ba HRcl38.out.lt); have HKli39 := Lib.hid (HKcl38.out.below ba HKcl38.out.lt); have HOli39 := Lib.hid (HOcl38.out.below ba); have HMli39 := Lib.hid ho; have HUli39 := Lib.hid (HUcl38.out.below ba); have HFli39 := Lib.hid HFcl38.out
                have HSli39 := Lib.hid (grown_below HScl38.out ba)
                clear hwa ba ho
                refine hK.out _ _ trivial (fun _ => ?_)
                clear hK
                try simp only [List.getElem_toArray, List.getElem_cons_succ, List.getElem_cons_zero, Act.put, List.setIfInBounds_toArray, List.set_cons_zero, List.set_cons_succ]
                refine wpAnyH_ready (rs := [9]) (by kernel_rfl) (by simp) ?_
                refine (AllReadyH.cons rfl (fun K' hK => ?_) AllReadyH.nil)
                simp only [List.getElem_toArray, List.getElem_cons_succ, List.getElem_cons_zero]
                rw [if_pos (by rfl)]
                refine wp_append_kd (.tmp 20) (.tmp 27) rfl (fun y => B0 ≤ y ∧ y ≠ b) wb.heap.size k 1 1 (.slice K5 k ck) (ks.take k) [kd ks k] (some ⟨cl38.heap.size, 0, none⟩) rfl rfl HOli39.out HMli39.out.1 (fun ad e j q' hj hat => by rw [HMli39.out.2 ad e j q' hj hat]; exact ⟨HUli39.out.inn, HFli39.out⟩) (by have := HN4.out; omega) HSli39.out.size ⟨(Nat.le_trans HB0w.out HSli39.out.size), by have := HRli39.out.lt; omega⟩ ?_
                intro v' ap40 hO hG hat
                obtain ⟨K6, ck6, rfl⟩ := hO.slice
                have HRap40 : Hid (RkB ⟨g, A1, n1, c1, K5, k, ck⟩ ap40 b) := Lib.hid ((hG.block b HRli39.out.lt (fun e => (HOli39.out.own b e.symm).2 rfl)).trans HRli39.out)
                have HOap40 := Lib.hid hO
                have HSap40 := Lib.hid (grown_own HSli39.out HOli39.out hG)
                clear hO hG hat
                obtain ⟨s0, s1, s2⟩ := HRap40.out.cs
                have fz := HRap40.out.frozen 2
                refine hK.out _ _ trivial (fun _ => ?_)
                clear hK
                try simp only [List.getElem_toArray, List.getElem_cons_succ, List.getElem_cons_zero, Act.put, List.setIfInBounds_toArray, List.set_cons_zero, List.set_cons_succ]
                refine wpAnyH_take (i := 10) (v := ?ve26) rfl (by kernel_rfl) (by kernel_rfl) (by kernel_rfl) (fun _ _ _ h => h) (Or.inl ⟨by rfl, ?ye26⟩) trivial ?re26
                case ye26 => (intro w' hSw; clear hSw; go_simp; try with_reducible rfl)
                simp only [List.getElem_toArray, List.getElem_cons_succ, List.getElem_cons_zero, Act.put, List.setIfInBounds_toArray, List.set_cons_zero, List.set_cons_succ]
                refine wpAnyH_ready (rs := [11]) (by kernel_rfl) (by simp) ?_
                refine (AllReadyH.cons rfl (fun K' hK => ?_) AllReadyH.nil)
                simp only [List.getElem_toArray, List.getElem_cons_succ, List.getElem_cons_zero]
                rw [if_pos (by rfl)]
                unfold Oper.wp execOp
                go_simp
                clear s0 s1 s2 fz
                have HRst41 := Lib.hid (HRap40.out.set2 (K' := K6) (nk' := k + 1) (ck' := ck6))
                have HOst41 := Lib.hid (HOap40.out.keep (w' := ap40.setCell ⟨b, 2, none⟩ (.slice K6 (k + 1) ck6)) (by simp [World.setCell]) fun y hy _ => Below.heap_setCell ap40 _ _ y hy.2)
                have HSst41 := Lib.hid (grown_set HSap40.out 2 (.slice K6 (k + 1) ck6))
                refine hK.out _ _ trivial (fun _ => ?_)
                clear hK
                try simp only [List.getElem_toArray, List.getElem_cons_succ, List.getElem_cons_zero, Act.put, List.setIfInBounds_toArray, List.set_cons_zero, List.set_cons_succ]
                refine wpAnyH_done (by kernel_rfl) ?_ _
                exact ⟨(A2, n2, c2, cl38.heap.size, K6, ck6), rfl, Lib.hid ⟨HRst41.out, by rw [HTK.out]; exact HOst41.out, HSst41.out⟩⟩
            · skip
              simp only [List.getElem_toArray, List.getElem_cons_succ, List.getElem_cons_zero]
              obtain ⟨t0, t1⟩ := HKwd.out.cs
              rw [if_pos (by rfl)]
              unfold Oper.wp execOp
              go_simp
              clear t0 t1
              refine hK.out _ _ trivial (fun _ => ?_)
              clear hK
              try simp only [List.getElem_toArray, List.getElem_cons_succ, List.getElem_cons_zero, Act.put, List.setIfInBounds_toArray, List.set_cons_zero, List.set_cons_succ]
              refine wpAnyH_ready (rs := [1, 6]) (by kernel_rfl) (by simp) ?_
              refine (AllReadyH.cons rfl (fun K' hK => ?_) (AllReadyH.cons rfl (fun K' hK => ?_) AllReadyH.nil))
              · skip
                simp only [List.getElem_toArray, List.getElem_cons_succ, List.getElem_cons_zero]
                obtain ⟨s0, s1, s2⟩ := HRwd.out.cs
                rw [if_pos (by rfl)]
                unfold Oper.wp execOp
                go_simp
                clear s0 s1 s2
                refine hK.out _ _ trivial (fun _ => ?_)
                clear hK
                try simp only [List.getElem_toArray, List.getElem_cons_succ, List.getElem_cons_zero, Act.put, List.setIfInBounds_toArray, List.set_cons_zero, List.set_cons_succ]
                refine wpAnyH_ready (rs := [6]) (by kernel_rfl) (by simp) ?_
                refine (AllReadyH.cons rfl (fun K' hK => ?_) AllReadyH.nil)
                simp only [List.getElem_toArray, List.getElem_cons_succ, List.getElem_cons_zero]
                go_simp
                refine (clone_any QA (kd ks k).key qn qc wd HQwd.out HQ6.out).mono ?_
                rintro e' cl42 ⟨A2, n2, c2, rfl, hX, hb⟩
                have HRcl42 := Lib.hid (HRwd.out.below hb HRwd.out.lt); have HKcl42 := Lib.hid (HKwd.out.below hb HKwd.out.lt); have HOcl42 := Lib.hid (HOwd.out.below hb)
                have HUcl42 : Hid (KdIs (fun y => B0 ≤ y ∧ y ≠ b) cl42 ⟨qg, A2, n2, c2⟩ (kd ks k)) := Lib.hid ⟨HQG.out, hX.any, (txt_inn hX).mono fun y hy => ⟨by have h1 := hy.1; have h2 := (Nat.le_trans HB0w.out HSwd.out.size); omega, by have h1 := hy.1; have h2 := HRwd.out.lt; omega⟩⟩
                have HFcl42 : Hid (Far (Value.slice K5 k ck).ownBlock A2 n2) := Lib.hid (far_older (lo := wd.heap.size) ((txt_inn hX).mono fun y hy => hy.1) fun z hz => (HOwd.out.lt z hz).2)
                have HScl42 := Lib.hid (grown_below HSwd.out hb)
                clear hX hb
                refine hK.out _ _ trivial (fun _ => ?_)
                clear hK
                try simp only [List.getElem_toArray, List.getElem_cons_succ, List.getElem_cons_zero, Act.put, List.setIfInBounds_toArray, List.set_cons_zero, List.set_cons_succ]
                refine wpAnyH_take (i := 7) (v := ?ve27) rfl (by kernel_rfl) (by kernel_rfl) (by kernel_rfl) (fun _ _ _ h => h) (Or.inl ⟨by rfl, ?ye27⟩) trivial ?re27
                case ye27 => (intro w' hSw; clear hSw; go_simp; try with_reducible rfl)
                simp only [List.getElem_toArray, List.getElem_cons_succ, List.getElem_cons_zero, Act.put, List.setIfInBounds_toArray, List.set_cons_zero, List.set_cons_succ]
                refine wpAnyH_ready (rs := [8]) (by kernel_rfl) (by simp) ?_
                refine (AllReadyH.cons rfl (fun K' hK => ?_) AllReadyH.nil)
                simp only [List.getElem_toArray, List.getElem_cons_succ, List.getElem_cons_zero]
                go_simp
                have ba := (Below.refl cl42.heap.size cl42).alloc (Nat.le_refl _) (.cells (KdQ.cs ⟨qg, A2, n2, c2⟩) 44)
                have ho := one_kd cl42 (fun y => B0 ≤ y ∧ y ≠ b) ⟨qg, A2, n2, c2⟩ (kd ks k) HUcl42.out
                obtain ⟨li43, hwa⟩ : ∃ wa, cl42.alloc (.cells (KdQ.cs ⟨qg, A2, n2, c2⟩) 44) = wa := ⟨_, rfl⟩
                rw [hwa] at ba ho
                dsimp only [KdQ.cs] at hwa
                try rw [hwa]
                have HRli43 := Lib.hid (HRcl42.out.below ba HRcl42.out.lt); have HKli43 := Lib.hid (HKcl42.out.below ba HKcl42.out.lt); have HOli43 := Lib.hid (HOcl42.out.below ba); have HMli43 := Lib.hid ho; have HUli43 := Lib.hid (HUcl42.out.below ba); have HFli43 := Lib.hid HFcl42.out
                have HSli43 := Lib.hid (grown_below HScl42.out ba)
                clear hwa ba ho
                refine hK.out _ _ trivial (fun _ => ?_)
                clear hK
                try simp only [List.getElem_toArray, List.getElem_cons_succ, List.getElem_cons_zero, Act.put, List.setIfInBounds_toArray, List.set_cons_zero, List.set_cons_succ]
                refine wpAnyH_ready (rs := [9]) (by kernel_rfl) (by simp) ?_
                refine (AllReadyH.cons rfl (fun K' hK => ?_) AllReadyH.nil)
                simp only [List.getElem_toArray, List.getElem_cons_succ, List.getElem_cons_zero]
                rw [if_pos (by rfl)]
                refine wp_append_kd (.tmp 20) (.tmp 27) rfl (fun y => B0 ≤ y ∧ y ≠ b) wb.heap.size k 1 1 (.slice K5 k ck) (ks.take k) [kd ks k] (some ⟨cl42.heap.size, 0, none⟩) rfl rfl HOli43.out HMli43.out.1 (fun ad e j q' hj hat => by rw [HMli43.out.2 ad e j q' hj hat]; exact ⟨HUli43.out.inn, HFli43.out⟩) (by have := HN4.out; omega) HSli43.out.size ⟨(Nat.le_trans HB0w.out HSli43.out.size), by have := HRli43.out.lt; omega⟩ ?_
                intro v' ap44 hO hG hat
                obtain ⟨K6, ck6, rfl⟩ := hO.slice
                have HRap44 : Hid (RkB ⟨g, A1, n1, c1, K5, k, ck⟩ ap44 b) := Lib.hid ((hG.block b HRli43.out.lt (fun e => (HOli43.out.own b e.symm).2 rfl)).trans HRli43.out)
                have HOap44 := Lib.hid hO
                have HSap44 := Lib.hid (grown_own HSli43.out HOli43.out hG)
                clear hO hG hat
                obtain ⟨s0, s1, s2⟩ := HRap44.out.cs
                have fz := HRap44.out.frozen 2
                refine hK.out _ _ trivial (fun _ => ?_)
                clear hK
                try simp only [List.getElem_toArray, List.getElem_cons_succ, List.getElem_cons_zero, Act.put, List.setIfInBounds_toArray, List.set_cons_zero, List.set_cons_succ]
                refine wpAnyH_take (i := 10) (v := ?ve28) rfl (by kernel_rfl) (by kernel_rfl) (by kernel_rfl) (fun _ _ _ h => h) (Or.inl ⟨by rfl, ?ye28⟩) trivial ?re28
                case ye28 => (intro w' hSw; clear hSw; go_simp; try with_reducible rfl)
                simp only [List.getElem_toArray, List.getElem_cons_succ, List.getElem_cons_zero, Act.put, List.setIfInBounds_toArray, List.set_cons_zero, List.set_cons_succ]
                refine wpAnyH_ready (rs := [11]) (by kernel_rfl) (by simp) ?_
                refine (AllReadyH.cons rfl (fun K' hK => ?_) AllReadyH.nil)
                simp only [List.getElem_toArray, List.getElem_cons_succ, List.getElem_cons_zero]
                rw [if_pos (by rfl)]
                unfold Oper.wp execOp
                go_simp
                clear s0 s1 s2 fz
                have HRst45 := Lib.hid (HRap44.out.set2 (K' := K6) (nk' := k + 1) (ck' := ck6))
                have HOst45 := Lib.hid (HOap44.out.keep (w' := ap44.setCell ⟨b, 2, none⟩ (.slice K6 (k + 1) ck6)) (by simp [World.setCell]) fun y hy _ => Below.heap_setCell ap44 _ _ y hy.2)
                have HSst45 := Lib.hid (grown_set HSap44.out 2 (.slice K6 (k + 1) ck6))
                refine hK.out _ _ trivial (fun _ => ?_)
                clear hK
                try simp only [List.getElem_toArray, List.getElem_cons_succ, List.getElem_cons_zero, Act.put, List.setIfInBounds_toArray, List.set_cons_zero, List.set_cons_succ]
                refine wpAnyH_done (by kernel_rfl) ?_ _
                exact ⟨(A2, n2, c2, cl42.heap.size, K6, ck6), rfl, Lib.hid ⟨HRst45.out, by rw [HTK.out]; exact HOst45.out, HSst45.out⟩⟩
              · skip
                simp only [List.getElem_toArray, List.getElem_cons_succ, List.getElem_cons_zero]
                go_simp
                refine (clone_any QA (kd ks k).key qn qc wd HQwd.out HQ6.out).mono ?_
                rintro e' cl46 ⟨A2, n2, c2, rfl, hX, hb⟩
                have HRcl46 := Lib.hid (HRwd.out.below hb HRwd.out.lt); have HKcl46 := Lib.hid (HKwd.out.below hb HKwd.out.lt); have HOcl46 := Lib.hid (HOwd.out.below hb)
                have HUcl46 : Hid (KdIs (fun y => B0 ≤ y ∧ y ≠ b) cl46 ⟨qg, A2, n2, c2⟩ (kd ks k)) := Lib.hid ⟨HQG.out, hX.any, (txt_inn hX).mono fun y hy => ⟨by have h1 := hy.1; have h2 := (Nat.le_trans HB0w.out HSwd.out.size); omega, by have h1 := hy.1; have h2 := HRwd.out.lt; omega⟩⟩
                have HFcl46 : Hid (Far (Value.slice K5 k ck).ownBlock A2 n2) := Lib.hid (far_older (lo := wd.heap.size) ((txt_inn hX).mono fun y hy => hy.1) fun z hz => (HOwd.out.lt z hz).2)
                have HScl46 := Lib.hid (grown_below HSwd.out hb)
                clear hX hb
                refine hK.out _ _ trivial (fun _ => ?_)
                clear hK
                try simp only [List.getElem_toArray, List.getElem_cons_succ, List.getElem_cons_zero, Act.put, List.setIfInBounds_toArray, List.set_cons_zero, List.set_cons_succ]
                refine wpAnyH_take (i := 7) (v := ?ve29) rfl (by kernel_rfl) (by kernel_rfl) (by kernel_rfl) (fun _ _ _ h => h) (Or.inl ⟨by rfl, ?ye29⟩) trivial ?re29
                case ye29 => (intro w' hSw; clear hSw; go_simp; try with_reducible rfl)
                simp only [List.getElem_toArray, List.getElem_cons_succ, List.getElem_cons_zero, Act.put, List.setIfInBounds_toArray, List.set_cons_zero, List.set_cons_succ]
                refine wpAnyH_ready (rs := [1, 8]) (by kernel_rfl) (by simp) ?_
                refine (AllReadyH.cons rfl (fun K' hK => ?_) (AllReadyH.cons rfl (fun K' hK => ?_) AllReadyH.nil))
                · skip
                  simp only [List.getElem_toArray, List.getElem_cons_succ, List.getElem_cons_zero]
                  obtain ⟨s0, s1, s2⟩ := HRcl46.out.cs
                  rw [if_pos (by rfl)]
                  unfold Oper.wp execOp
                  go_simp
                  clear s0 s1 s2
                  refine hK.out _ _ trivial (fun _ => ?_)
                  clear hK
                  try simp only [List.getElem_toArray, List.getElem_cons_succ, List.getElem_cons_zero, Act.put, List.setIfInBounds_toArray, List.set_cons_zero, List.set_cons_succ]
                  refine wpAnyH_ready (rs := [8]) (by kernel_rfl) (by simp) ?_
                  refine (AllReadyH.cons rfl (fun K' hK => ?_) AllReadyH.nil)
                  simp only [List.getElem_toArray, List.getElem_cons_succ, List.getElem_cons_zero]
                  go_simp
                  have ba := (Below.refl cl46.heap.size cl46).alloc (Nat.le_refl _) (.cells (KdQ.cs ⟨qg, A2, n2, c2⟩) 44)
                  have ho := one_kd cl46 (fun y => B0 ≤ y ∧ y ≠ b) ⟨qg, A2, n2, c2⟩ (kd ks k) HUcl46.out
                  obtain ⟨li47, hwa⟩ : ∃ wa, cl46.alloc (.cells (KdQ.cs ⟨qg, A2, n2, c2⟩) 44) = wa := ⟨_, rfl⟩
                  rw [hwa] at ba ho
                  dsimp only [KdQ.cs] at hwa
                  try rw [hwa]
                  have HRli47 := Lib.hid (HRcl46.out.below ba HRcl46.out.lt); have HKli47 := Lib.hid (HKcl46.out.below ba HKcl46.out.lt); have HOli47 := Lib.hid (HOcl46.out.below ba); have HMli47 := Lib.hid ho; have HUli47 := Lib.hid (HUcl46.out.below ba); have HFli47 := Lib.hid HFcl46.out
                  have HSli47 := Lib.hid (grown_below HScl46.out ba)
                  clear hwa ba ho
                  refine hK.out _ _ trivial (fun _ => ?_)
                  clear hK
                  try simp only [List.getElem_toArray, List.getElem_cons_succ, List.getElem_cons_zero, Act.put, List.setIfInBounds_toArray, List.set_cons_zero, List.set_cons_succ]
                  refine wpAnyH_ready (rs := [9]) (by kernel_rfl) (by simp) ?_
                  refine (AllReadyH.cons rfl (fun K' hK => ?_) AllReadyH.nil)
                  simp only [List.getElem_toArray, List.getElem_cons_succ, List.getElem_cons_zero]
                  rw [if_pos (by rfl)]
                  refine wp_append_kd (.tmp 20) (.tmp 27) rfl (fun y => B0 ≤ y ∧ y ≠ b) wb.heap.size k 1 1 (.slice K5 k ck) (ks.take k) [kd ks k] (some ⟨cl46.heap.size, 0, none⟩) rfl rfl HOli47.out HMli47.out.1 (fun ad e j q' hj hat => by rw [HMli47.out.2 ad e j q' hj hat]; exact ⟨HUli47.out.inn, HFli47.out⟩) (by have := HN4.out; omega) HSli47.out.size ⟨(Nat.le_trans HB0w.out HSli47.out.size), by have := HRli47.out.lt; omega⟩ ?_
                  intro v' ap48 hO hG hat
                  obtain ⟨K6, ck6, rfl⟩ := hO.slice
                  have HRap48 : Hid (RkB ⟨g, A1, n1, c1, K5, k, ck⟩ ap48 b) := Lib.hid ((hG.block b HRli47.out.lt (fun e => (HOli47.out.own b e.symm).2 rfl)).trans HRli47.out)
                  have HOap48 := Lib.hid hO
                  have HSap48 := Lib.hid (grown_own HSli47.out HOli47.out hG)
                  clear hO hG hat
                  obtain ⟨s0, s1, s2⟩ := HRap48.out.cs
                  have fz := HRap48.out.frozen 2
                  refine hK.out _ _ trivial (fun _ => ?_)
                  clear hK
                  try simp only [List.getElem_toArray, List.getElem_cons_succ, List.getElem_cons_zero, Act.put, List.setIfInBounds_toArray, List.set_cons_zero, List.set_cons_succ]
                  refine wpAnyH_take (i := 10) (v := ?ve30) rfl (by kernel_rfl) (by kernel_rfl) (by kernel_rfl) (fun _ _ _ h => h) (Or.inl ⟨by rfl, ?ye30⟩) trivial ?re30
                  case ye30 => (intro w' hSw; clear hSw; go_simp; try with_reducible rfl)
                  simp only [List.getElem_toArray, List.getElem_cons_succ, List.getElem_cons_zero, Act.put, List.setIfInBounds_toArray, List.set_cons_zero, List.set_cons_succ]
                  refine wpAnyH_ready (rs := [11]) (by kernel_rfl) (by simp) ?_
                  refine (AllReadyH.cons rfl (fun K' hK => ?_) AllReadyH.nil)
                  simp only [List.getElem_toArray, List.getElem_cons_succ, List.getElem_cons_zero]
                  rw [if_pos (by rfl)]
                  unfold Oper.wp execOp
                  go_simp
                  clear s0 s1 s2 fz
                  have HRst49 := Lib.hid (HRap48.out.set2 (K' := K6) (nk' := k + 1) (ck' := ck6))
                  have HOst49 := Lib.hid (HOap48.out.keep (w' := ap48.setCell ⟨b, 2, none⟩ (.slice K6 (k + 1) ck6)) (by simp [World.setCell]) fun y hy _ => Below.heap_setCell ap48 _ _ y hy.2)
                  have HSst49 := Lib.hid (grown_set HSap48.out 2 (.slice K6 (k + 1) ck6))
                  refine hK.out _ _ trivial (fun _ => ?_)
                  clear hK
                  try simp only [List.getElem_toArray, List.getElem_cons_succ, List.getElem_cons_zero, Act.put, List.setIfInBounds_toArray, List.set_cons_zero, List.set_cons_succ]
                  refine wpAnyH_done (by kernel_rfl) ?_ _
                  exact ⟨(A2, n2, c2, cl46.heap.size, K6, ck6), rfl, Lib.hid ⟨HRst49.out, by rw [HTK.out]; exact HOst49.out, HSst49.out⟩⟩
                · skip
                  simp only [List.getElem_toArray, List.getElem_cons_succ, List.getElem_cons_zero]
                  go_simp
                  have ba := (Below.refl cl46.heap.size cl46).alloc (Nat.le_refl _) (.cells (KdQ.cs ⟨qg, A2, n2, c2⟩) 44)
                  have ho := one_kd cl46 (fun y => B0 ≤ y ∧ y ≠ b) ⟨qg, A2, n2, c2⟩ (kd ks k) HUcl46.out
                  obtain ⟨li50, hwa⟩ : ∃ wa, cl46.alloc (.cells (KdQ.cs ⟨qg, A2, n2, c2⟩) 44) = wa := ⟨_, rfl⟩
                  rw [hwa] at ba ho
                  dsimp only [KdQ.cs] at hwa
                  try rw [hwa]
                  have HRli50 := Lib.hid (HRcl46.out.below ba HRcl46.out.lt); have HKli50 := Lib.hid (HKcl46.out.below ba HKcl46.out.lt); have HOli50 := Lib.hid (HOcl46.out.below ba); have HMli50 := Lib.hid ho; have HUli50 := Lib.hid (HUcl46.out.below ba); have HFli50 := Lib.hid HFcl46.out
                  have HSli50 := Lib.hid (grown_below HScl46.out ba)
                  clear hwa ba ho
                  refine hK.out _ _ trivial (fun _ => ?_)
                  clear hK
                  try simp only [List.getElem_toArray, List.getElem_cons_succ, List.getElem_cons_zero, Act.put, List.setIfInBounds_toArray, List.set_cons_zero, List.set_cons_succ]
                  refine wpAnyH_ready (rs := [1]) (by kernel_rfl) (by simp) ?_
                  refine (AllReadyH.cons rfl (fun K' hK => ?_) AllReadyH.nil)
                  simp only [List.getElem_toArray, List.getElem_cons_succ, List.getElem_cons_zero]
                  obtain ⟨s0, s1, s2⟩ := HRli50.out.cs
                  rw [if_pos (by rfl)]
                  unfold Oper.wp execOp
                  go_simp
                  clear s0 s1 s2
                  refine hK.out _ _ trivial (fun _ => ?_)
                  clear hK
                  try simp only [List.getElem_toArray, List.getElem_cons_succ, List.getElem_cons_zero, Act.put, List.setIfInBounds_toArray, List.set_cons_zero, List.set_cons_succ]
                  refine wpAnyH_ready (rs := [9]) (by kernel_rfl) (by simp) ?_
                  refine (AllReadyH.cons rfl (fun K' hK => ?_) AllReadyH.nil)
                  simp only [List.getElem_toArray, List.getElem_cons_succ, List.getElem_cons_zero]
                  rw [if_pos (by rfl)]
                  refine wp_append_kd (.tmp 20) (.tmp 27) rfl (fun y => B0 ≤ y ∧ y ≠ b) wb.heap.size k 1 1 (.slice K5 k ck) (ks.take k) [kd ks k] (some ⟨cl46.heap.size, 0, none⟩) rfl rfl HOli50.out HMli50.out.1 (fun ad e j q' hj hat => by rw [HMli50.out.2 ad e j q' hj hat]; exact ⟨HUli50.out.inn, HFli50.out⟩) (by have := HN4.out; omega) HSli50.out.size ⟨(Nat.le_trans HB0w.out HSli50.out.size), by have := HRli50.out.lt; omega⟩ ?_
                  intro v' ap51 hO hG hat
                  obtain ⟨K6, ck6, rfl⟩ := hO.slice
                  have HRap51 : Hid (RkB ⟨g, A1, n1, c1, K5, k, ck⟩ ap51 b) := Lib.hid ((hG.block b HRli50.out.lt (fun e => (HOli50.out.own b e.symm).2 rfl)).trans HRli50.out)
                  have HOap51 := Lib.hid hO
                  have HSap51 := Lib.hid (grown_own HSli50.out HOli50.out hG)
                  clear hO hG hat
                  obtain ⟨s0, s1, s2⟩ := HRap51.out.cs
                  have fz := HRap51.out.frozen 2
                  refine hK.out _ _ trivial (fun _ => ?_)
                  clear hK
                  try simp only [List.getElem_toArray, List.getElem_cons_succ, List.getElem_cons_zero, Act.put, List.setIfInBounds_toArray, List.set_cons_zero, List.set_cons_succ]
                  refine wpAnyH_take (i := 10) (v := ?ve31) rfl (by kernel_rfl) (by kernel_rfl) (by kernel_rfl) (fun _ _ _ h => h) (Or.inl ⟨by rfl, ?ye31⟩) trivial ?re31
                  case ye31 => (intro w' hSw; clear hSw; go_simp; try with_reducible rfl)
                  simp only [List.getElem_toArray, List.getElem_cons_succ, List.getElem_cons_zero, Act.put, List.setIfInBounds_toArray, List.set_cons_zero, List.set_cons_succ]
                  refine wpAnyH_ready (rs := [11]) (by kernel_rfl) (by simp) ?_
                  refine (AllReadyH.cons rfl (fun K' hK => ?_) AllReadyH.nil)
                  simp only [List.getElem_toArray, List.getElem_cons_succ, List.getElem_cons_zero]
                  rw [if_pos (by rfl)]
                  unfold Oper.wp execOp
                  go_simp
                  clear s0 s1 s2 fz
                  have HRst52 := Lib.hid (HRap51.out.set2 (K' := K6) (nk' := k + 1) (ck' := ck6))
                  have HOst52 := Lib.hid (HOap51.out.keep (w' := ap51.setCell ⟨b, 2, none⟩ (.slice K6 (k + 1) ck6)) (by simp [World.setCell]) fun y hy _ => Below.heap_setCell ap51 _ _ y hy.2)
                  have HSst52 := Lib.hid (grown_set HSap51.out 2 (.slice K6 (k + 1) ck6))
                  refine hK.out _ _ trivial (fun _ => ?_)
                  clear hK
                  try simp only [List.getElem_toArray, List.getElem_cons_succ, List.getElem_cons_zero, Act.put, List.setIfInBounds_toArray, List.set_cons_zero, List.set_cons_succ]
                  refine wpAnyH_done (by kernel_rfl) ?_ _
                  exact ⟨(A2, n2, c2, cl46.heap.size, K6, ck6), rfl, Lib.hid ⟨HRst52.out, by rw [HTK.out]; exact HOst52.out, HSst52.out⟩⟩
            · skip
              simp only [List.getElem_toArray, List.getElem_cons_succ, List.getElem_cons_zero]
              go_simp
              refine (clone_any QA (kd ks k).key qn qc wd HQwd.out HQ6.out).mono ?_
              rintro e' cl53 ⟨A2, n2, c2, rfl, hX, hb⟩
              have HRcl53 := Lib.hid (HRwd.out.below hb HRwd.out.lt); have HKcl53 := Lib.hid (HKwd.out.below hb HKwd.out.lt); have HOcl53 := Lib.hid (HOwd.out.below hb)
              have HUcl53 : Hid (KdIs (fun y => B0 ≤ y ∧ y ≠ b) cl53 ⟨qg, A2, n2, c2⟩ (kd ks k)) := Lib.hid ⟨HQG.out, hX.any, (txt_inn hX).mono fun y hy => ⟨by have h1 := hy.1; have h2 := (Nat.le_trans HB0w.out HSwd.out.size); omega, by have h1 := hy.1; have h2 := HRwd.out.lt; omega⟩⟩
              have HFcl53 : Hid (Far (Value.slice K5 k ck).ownBlock A2 n2) := Lib.hid (far_older (lo := wd.heap.size) ((txt_inn hX).mono fun y hy => hy.1) fun z hz => (HOwd.out.lt z hz).2)
              have HScl53 := Lib.hid (grown_below HSwd.out hb)
              clear hX hb
              refine hK.out _ _ trivial (fun _ => ?_)
              clear hK
              try simp only [List.getElem_toArray, List.getElem_cons_succ, List.getElem_cons_zero, Act.put, List.setIfInBounds_toArray, List.set_cons_zero, List.set_cons_succ]
              refine wpAnyH_ready (rs := [1, 3]) (by kernel_rfl) (by simp) ?_
              refine (AllReadyH.cons rfl (fun K' hK => ?_) (AllReadyH.cons rfl (fun K' hK => ?_) AllReadyH.nil))
              · skip
                simp only [List.getElem_toArray, List.getElem_cons_succ, List.getElem_cons_zero]
                obtain ⟨s0, s1, s2⟩ := HRcl53.out.cs
                rw [if_pos (by rfl)]
                unfold Oper.wp execOp
                go_simp
                clear s0 s1 s2
                refine hK.out _ _ trivial (fun _ => ?_)
                clear hK
                try simp only [List.getElem_toArray, List.getElem_cons_succ, List.getElem_cons_zero, Act.put, List.setIfInBounds_toArray, List.set_cons_zero, List.set_cons_succ]
                refine wpAnyH_ready (rs := [3]) (by kernel_rfl) (by simp) ?_
                refine (AllReadyH.cons rfl (fun K' hK => ?_) AllReadyH.nil)
                simp only [List.getElem_toArray, List.getElem_cons_succ, List.getElem_cons_zero]
                obtain ⟨t0, t1⟩ := HKcl53.out.cs
                rw [if_pos (by rfl)]
                unfold Oper.wp execOp
                go_simp
                clear t0 t1
                refine hK.out _ _ trivial (fun _ => ?_)
                clear hK
                try simp only [List.getElem_toArray, List.getElem_cons_succ, List.getElem_cons_zero, Act.put, List.setIfInBounds_toArray, List.set_cons_zero, List.set_cons_succ]
                refine wpAnyH_take (i := 7) (v := ?ve32) rfl (by kernel_rfl) (by kernel_rfl) (by kernel_rfl) (fun _ _ _ h => h) (Or.inl ⟨by rfl, ?ye32⟩) trivial ?re32
                case ye32 => (intro w' hSw; clear hSw; go_simp; try with_reducible rfl)
                simp only [List.getElem_toArray, List.getElem_cons_succ, List.getElem_cons_zero, Act.put, List.setIfInBounds_toArray, List.set_cons_zero, List.set_cons_succ]
                refine wpAnyH_ready (rs := [8]) (by kernel_rfl) (by simp) ?_
                refine (AllReadyH.cons rfl (fun K' hK => ?_) AllReadyH.nil)
                simp only [List.getElem_toArray, List.getElem_cons_succ, List.getElem_cons_zero]
                go_simp
                have ba := (Below.refl cl53.heap.size cl53).alloc (Nat.le_refl _) (.cells (KdQ.cs ⟨qg, A2, n2, c2⟩) 44)
                have ho := one_kd cl53 (fun y => B0 ≤ y ∧ y ≠ b) ⟨qg, A2, n2, c2⟩ (kd ks k) HUcl53.out
                obtain ⟨li54, hwa⟩ : ∃ wa, cl53.alloc (.cells (KdQ.cs ⟨qg, A2, n2, c2⟩) 44) = wa := ⟨_, rfl⟩
                rw [hwa] at ba ho
                dsimp only [KdQ.cs] at hwa
                try rw [hwa]
                have HRli54 := Lib.hid (HRcl53.out.below ba HRcl53.out.lt); have HKli54 := Lib.hid (HKcl53.out.below ba HKcl53.out.lt); have HOli54 := Lib.hid (HOcl53.out.below ba); have HMli54 := Lib.hid ho; have HUli54 := Lib.hid (HUcl53.out.below ba); have HFli54 := Lib.hid HFcl53.out
                have HSli54 := Lib.hid (grown_below HScl53.out ba)
                clear hwa ba ho
                refine hK.out _ _ trivial (fun _ => ?_)
                clear hK
                try simp only [List.getElem_toArray, List.getElem_cons_succ, List.getElem_cons_zero, Act.put, List.setIfInBounds_toArray, List.set_cons_zero, List.set_cons_succ]
                refine wpAnyH_ready (rs := [9]) (by kernel_rfl) (by simp) ?_
                refine (AllReadyH.cons rfl (fun K' hK => ?_) AllReadyH.nil)
                simp only [List.getElem_toArray, List.getElem_cons_succ, List.getElem_cons_zero]
                rw [if_pos (by rfl)]
                refine wp_append_kd (.tmp 20) (.tmp 27) rfl (fun y => B0 ≤ y ∧ y ≠ b) wb.heap.size k 1 1 (.slice K5 k ck) (ks.take k) [kd ks k] (some ⟨cl53.heap.size, 0, none⟩) rfl rfl HOli54.out HMli54.out.1 (fun ad e j q' hj hat => by rw [HMli54.out.2 ad e j q' hj hat]; exact ⟨HUli54.out.inn, HFli54.out⟩) (by have := HN4.out; omega) HSli54.out.size ⟨(Nat.le_trans HB0w.out HSli54.out.size), by have := HRli54.out.lt; omega⟩ ?_
                intro v' ap55 hO hG hat
                obtain ⟨K6, ck6, rfl⟩ := hO.slice
                have HRap55 : Hid (RkB ⟨g, A1, n1, c1, K5, k, ck⟩ ap55 b) := Lib.hid ((hG.block b HRli54.out.lt (fun e => (HOli54.out.own b e.symm).2 rfl)).trans HRli54.out)
                have HOap55 := Lib.hid hO
                have HSap55 := Lib.hid (grown_own HSli54.out HOli54.out hG)
                clear hO hG hat
                obtain ⟨s0, s1, s2⟩ := HRap55.out.cs
                have fz := HRap55.out.frozen 2
                refine hK.out _ _ trivial (fun _ => ?_)
                clear hK
                try simp only [List.getElem_toArray, List.getElem_cons_succ, List.getElem_cons_zero, Act.put, List.setIfInBounds_toArray, List.set_cons_zero, List.set_cons_succ]
                refine wpAnyH_take (i := 10) (v := ?ve33) rfl (by kernel_rfl) (by kernel_rfl) (by kernel_rfl) (fun _ _ _ h => h) (Or.inl ⟨by rfl, ?ye33⟩) trivial ?re33
                case ye33 => (intro w' hSw; clear hSw; go_simp; try with_reducible rfl)
                simp only [List.getElem_toArray, List.getElem_cons_succ, List.getElem_cons_zero, Act.put, List.setIfInBounds_toArray, List.set_cons_zero, List.set_cons_succ]
                refine wpAnyH_ready (rs := [11]) (by kernel_rfl) (by simp) ?_
                refine (AllReadyH.cons rfl (fun K' hK => ?_) AllReadyH.nil)
                simp only [List.getElem_toArray, List.getElem_cons_succ, List.getElem_cons_zero]
                rw [if_pos (by rfl)]
                unfold Oper.wp execOp
                go_simp
                clear s0 s1 s2 fz
                have HRst56 := Lib.hid (HRap55.out.set2 (K' := K6) (nk' := k + 1) (ck' := ck6))
                have HOst56 := Lib.hid (HOap55.out.keep (w' := ap55.setCell ⟨b, 2, none⟩ (.slice K6 (k + 1) ck6)) (by simp [World.setCell]) fun y hy _ => Below.heap_setCell ap55 _ _ y hy.2)
                have HSst56 := Lib.hid (grown_set HSap55.out 2 (.slice K6 (k + 1) ck6))
                refine hK.out _ _ trivial (fun _ => ?_)
                clear hK
                try simp only [List.getElem_toArray, List.getElem_cons_succ, List.getElem_cons_zero, Act.put, List.setIfInBounds_toArray, List.set_cons_zero, List.set_cons_succ]
                refine wpAnyH_done (by kernel_rfl) ?_ _
                exact ⟨(A2, n2, c2, cl53.heap.size, K6, ck6), rfl, Lib.hid ⟨HRst56.out, by rw [HTK.out]; exact HOst56.out, HSst56.out⟩⟩
              · skip
                simp only [List.getElem_toArray, List.getElem_cons_succ, List.getElem_cons_zero]
                obtain ⟨t0, t1⟩ := HKcl53.out.cs
                rw [if_pos (by rfl)]
                unfold Oper.wp execOp
                go_simp
                clear t0 t1
                refine hK.out _ _ trivial (fun _ => ?_)
                clear hK
                try simp only [List.getElem_toArray, List.getElem_cons_succ, List.getElem_cons_zero, Act.put, List.setIfInBounds_toArray, List.set_cons_zero, List.set_cons_succ]
                refine wpAnyH_take (i := 7) (v := ?ve34) rfl (by kernel_rfl) (by kernel_rfl) (by kernel_rfl) (fun _ _ _ h => h) (Or.inl ⟨by rfl, ?ye34⟩) trivial ?re34
                case ye34 => (intro w' hSw; clear hSw; go_simp; try with_reducible rfl)
                simp only [List.getElem_toArray, List.getElem_cons_succ, List.getElem_cons_zero, Act.put, List.setIfInBounds_toArray, List.set_cons_zero, List.set_cons_succ]
                refine wpAnyH_ready (rs := [1, 8]) (by kernel_rfl) (by simp) ?_
                refine (AllReadyH.cons rfl (fun K' hK => ?_) (AllReadyH.cons rfl (fun K' hK => ?_) AllReadyH.nil))
                · skip
                  simp only [List.getElem_toArray, List.getElem_cons_succ, List.getElem_cons_zero]
                  obtain ⟨s0, s1, s2⟩ := HRcl53.out.cs
                  rw [if_pos (by rfl)]
                  unfold Oper.wp execOp
                  go_simp
                  clear s0 s1 s2
                  refine hK.out _ _ trivial (fun _ => ?_)
                  clear hK
                  try simp only [List.getElem_toArray, List.getElem_cons_succ, List.getElem_cons_zero, Act.put, List.setIfInBounds_toArray, List.set_cons_zero, List.set_cons_succ]
                  refine wpAnyH_ready (rs := [8]) (by kernel_rfl) (by simp) ?_
                  refine (AllReadyH.cons rfl (fun K' hK => ?_) AllReadyH.nil)
                  simp only [List.getElem_toArray, List.getElem_cons_succ, List.getElem_cons_zero]
                  go_simp
                  have ba := (Below.refl cl53.heap.size cl53).alloc (Nat.le_refl _) (.cells (KdQ.cs ⟨qg, A2, n2, c2⟩) 44)
                  have ho := one_kd cl53 (fun y => B0 ≤ y ∧ y ≠ b) ⟨qg, A2, n2, c2⟩ (kd ks k) HUcl53.out
                  obtain ⟨li57, hwa⟩ : ∃ wa, cl53.alloc (.cells (KdQ.cs ⟨qg, A2, n2, c2⟩) 44) = wa := ⟨_, rfl⟩
                  rw [hwa] at ba ho
                  dsimp only [KdQ.cs] at hwa
                  try rw [hwa]
                  have HRli57 := Lib.hid (HRcl53.out.below ba HRcl53.out.lt); have HKli57 := Lib.hid (HKcl53.out.below ba HKcl53.out.lt); have HOli57 := Lib.hid (HOcl53.out.below ba); have HMli57 := Lib.hid ho; have HUli57 := Lib.hid (HUcl53.out.below ba); have HFli57 := Lib.hid HFcl53.out
                  have HSli57 := Lib.hid (grown_below HScl53.out ba)
                  clear hwa ba ho
                  refine hK.out _ _ trivial (fun _ => ?_)
                  clear hK
                  try simp only [List.getElem_toArray, List.getElem_cons_succ, List.getElem_cons_zero, Act.put, List.setIfInBounds_toArray, List.set_cons_zero, List.set_cons_succ]
                  refine wpAnyH_ready (rs := [9]) (by kernel_rfl) (by simp) ?_
                  refine (AllReadyH.cons rfl (fun K' hK => ?_) AllReadyH.nil)
                  simp only [List.getElem_toArray, List.getElem_cons_succ, List.getElem_cons_zero]
                  rw [if_pos (by rfl)]
                  refine wp_append_kd (.tmp 20) (.tmp 27) rfl (fun y => B0 ≤ y ∧ y ≠ b) wb.heap.size k 1 1 (.slice K5 k ck) (ks.take k) [kd ks k] (some ⟨cl53.heap.size, 0, none⟩) rfl rfl HOli57.out HMli57.out.1 (fun ad e j q' hj hat => by rw [HMli57.out.2 ad e j q' hj hat]; exact ⟨HUli57.out.inn, HFli57.out⟩) (by have := HN4.out; omega) HSli57.out.size ⟨(Nat.le_trans HB0w.out HSli57.out.size), by have := HRli57.out.lt; omega⟩ ?_
                  intro v' ap58 hO hG hat
                  obtain ⟨K6, ck6, rfl⟩ := hO.slice
                  have HRap58 : Hid (RkB ⟨g, A1, n1, c1, K5, k, ck⟩ ap58 b) := Lib.hid ((hG.block b HRli57.out.lt (fun e => (HOli57.out.own b e.symm).2 rfl)).trans HRli57.out)
                  have HOap58 := Lib.hid hO
                  have HSap58 := Lib.hid (grown_own HSli57.out HOli57.out hG)
                  clear hO hG hat
                  obtain ⟨s0, s1, s2⟩ := HRap58.out.cs
                  have fz := HRap58.out.frozen 2
                  refine hK.out _ _ trivial (fun _ => ?_)
                  clear hK
                  try simp only [List.getElem_toArray, List.getElem_cons_succ, List.getElem_cons_zero, Act.put, List.setIfInBounds_toArray, List.set_cons_zero, List.set_cons_succ]
                  refine wpAnyH_take (i := 10) (v := ?ve35) rfl (by kernel_rfl) (by kernel_rfl) (by kernel_rfl) (fun _ _ _ h => h) (Or.inl ⟨by rfl, ?ye35⟩) trivial ?re35
                  case ye35 => (intro w' hSw; clear hSw; go_simp; try with_reducible rfl)
                  simp only [List.getElem_toArray, List.getElem_cons_succ, List.getElem_cons_zero, Act.put, List.setIfInBounds_toArray, List.set_cons_zero, List.set_cons_succ]
                  refine wpAnyH_ready (rs := [11]) (by kernel_rfl) (by simp) ?_
                  refine (AllReadyH.cons rfl (fun K' hK => ?_) AllReadyH.nil)
                  simp only [List.getElem_toArray, List.getElem_cons_succ, List.getElem_cons_zero]
                  rw [if_pos (by rfl)]
                  unfold Oper.wp execOp
                  go_simp
                  clear s0 s1 s2 fz
                  have HRst59 := Lib.hid (HRap58.out.set2 (K' := K6) (nk' := k + 1) (ck' := ck6))
                  have HOst59 := Lib.hid (HOap58.out.keep (w' := ap58.setCell ⟨b, 2, none⟩ (.slice K6 (k + 1) ck6)) (by simp [World.setCell]) fun y hy _ => Below.heap_setCell ap58 _ _ y hy.2)
                  have HSst59 := Lib.hid (grown_set HSap58.out 2 (.slice K6 (k + 1) ck6))
                  refine hK.out _ _ trivial (fun _ => ?_)
                  clear hK
                  try simp only [List.getElem_toArray, List.getElem_cons_succ, List.getElem_cons_zero, Act.put, List.setIfInBounds_toArray, List.set_cons_zero, List.set_cons_succ]
                  refine wpAnyH_done (by kernel_rfl) ?_ _
                  exact ⟨(A2, n2, c2, cl53.heap.size, K6, ck6), rfl, Lib.hid ⟨HRst59.out, by rw [HTK.out]; exact HOst59.out, HSst59.out⟩⟩
                · skip
                  simp only [List.getElem_toArray, List.getElem_cons_succ, List.getElem_cons_zero]
                  go_simp
                  have ba := (Below.refl cl53.heap.size cl53).alloc (Nat.le_refl _) (.cells (KdQ.cs ⟨qg, A2, n2, c2⟩) 44)
                  have ho := one_kd cl53 (fun y => B0 ≤ y ∧ y ≠ b) ⟨qg, A2, n2, c2⟩ (kd ks k) HUcl53.out
                  obtain ⟨li60, hwa⟩ : ∃ wa, cl53.alloc (.cells (KdQ.cs ⟨qg, A2, n2, c2⟩) 44) = wa := ⟨_, rfl⟩
                  rw [hwa] at ba ho
                  dsimp only [KdQ.cs] at hwa
                  try rw [hwa]
                  have HRli60 := Lib.hid (HRcl53.out.below ba HRcl53.out.lt); have HKli60 := Lib.hid (HKcl53.out.below ba HKcl53.out.lt); have HOli60 := Lib.hid (HOcl53.out.below ba); have HMli60 := Lib.hid ho; have HUli60 := Lib.hid (HUcl53.out.below ba); have HFli60 := Lib.hid HFcl53.out
                  have HSli60 := Lib.hid (grown_below HScl53.out ba)
                  clear hwa ba ho
                  refine hK.out _ _ trivial (fun _ => ?_)
                  clear hK
                  try simp only [List.getElem_toArray, List.getElem_cons_succ, List.getElem_cons_zero, Act.put, List.setIfInBounds_toArray, List.set_cons_zero, List.set_cons_succ]
                  refine wpAnyH_ready (rs := [1]) (by kernel_rfl) (by simp) ?_
                  refine (AllReadyH.cons rfl (fun K' hK => ?_) AllReadyH.nil)
                  simp only [List.getElem_toArray, List.getElem_cons_succ, List.getElem_cons_zero]
                  obtain ⟨s0, s1, s2⟩ := HRli60.out.cs
                  rw [if_pos (by rfl)]
                  unfold Oper.wp execOp
                  go_simp
                  clear s0 s1 s2
                  refine hK.out _ _ trivial (fun _ => ?_)
                  clear hK
                  try simp only [List.getElem_toArray, List.getElem_cons_succ, List.getElem_cons_zero, Act.put, List.setIfInBounds_toArray, List.set_cons_zero, List.set_cons_succ]
                  refine wpAnyH_ready (rs := [9]) (by kernel_rfl) (by simp) ?_
                  refine (AllReadyH.cons rfl (fun K' hK => ?_) AllReadyH.nil)
                  simp only [List.getElem_toArray, List.getElem_cons_succ, List.getElem_cons_zero]
                  rw [if_pos (by rfl)]
                  refine wp_append_kd (.tmp 20) (.tmp 27) rfl (fun y => B0 ≤ y ∧ y ≠ b) wb.heap.size k 1 1 (.slice K5 k ck) (ks.take k) [kd ks k] (some ⟨cl53.heap.size, 0, none⟩) rfl rfl HOli60.out HMli60.out.1 (fun ad e j q' hj hat => by rw [HMli60.out.2 ad e j q' hj hat]; exact ⟨HUli60.out.inn, HFli60.out⟩) (by have := HN4.out; omega) HSli60.out.size ⟨(Nat.le_trans HB0w.out HSli60.out.size), by have := HRli60.out.lt; omega⟩ ?_
                  intro v' ap61 hO hG hat
                  obtain ⟨K6, ck6, rfl⟩ := hO.slice
                  have HRap61 : Hid (RkB ⟨g, A1, n1, c1, K5, k, ck⟩ ap61 b) := Lib.hid ((hG.block b HRli60.out.lt (fun e => (HOli60.out.own b e.symm).2 rfl)).trans HRli60.out)
                  have HOap61 := Lib.hid hO
                  have HSap61 := Lib.hid (grown_own HSli60.out HOli60.out hG)
                  clear hO hG hat
                  obtain ⟨s0, s1, s2⟩ := HRap61.out.cs
                  have fz := HRap61.out.frozen 2
                  refine hK.out _ _ trivial (fun _ => ?_)
                  clear hK
                  try simp only [List.getElem_toArray, List.getElem_cons_succ, List.getElem_cons_zero, Act.put, List.setIfInBounds_toArray, List.set_cons_zero, List.set_cons_succ]
                  refine wpAnyH_take (i := 10) (v := ?ve36) rfl (by kernel_rfl) (by kernel_rfl) (by kernel_rfl) (fun _ _ _ h => h) (Or.inl ⟨by rfl, ?ye36⟩) trivial ?re36
                  case ye36 => (intro w' hSw; clear hSw; go_simp; try with_reducible rfl)
                  simp only [List.getElem_toArray, List.getElem_cons_succ, List.getElem_cons_zero, Act.put, List.setIfInBounds_toArray, List.set_cons_zero, List.set_cons_succ]
                  refine wpAnyH_ready (rs := [11]) (by kernel_rfl) (by simp) ?_
                  refine (AllReadyH.cons rfl (fun K' hK => ?_) AllReadyH.nil)
                  simp only [List.getElem_toArray, List.getElem_cons_succ, List.getElem_cons_zero]
                  rw [if_pos (by rfl)]
                  unfold Oper.wp execOp
                  go_simp
                  clear s0 s1 s2 fz
                  have HRst62 := Lib.hid (HRap61.out.set2 (K' := K6) (nk' := k + 1) (ck' := ck6))
                  have HOst62 := Lib.hid (HOap61.out.keep (w' := ap61.setCell ⟨b, 2, none⟩ (.slice K6 (k + 1) ck6)) (by simp [World.setCell]) fun y hy _ => Below.heap_setCell ap61 _ _ y hy.2)
                  have HSst62 := Lib.hid (grown_set HSap61.out 2 (.slice K6 (k + 1) ck6))
                  refine hK.out _ _ trivial (fun _ => ?_)
                  clear hK
                  try simp only [List.getElem_toArray, List.getElem_cons_succ, List.getElem_cons_zero, Act.put, List.setIfInBounds_toArray, List.set_cons_zero, List.set_cons_succ]
                  refine wpAnyH_done (by kernel_rfl) ?_ _
                  exact ⟨(A2, n2, c2, cl53.heap.size, K6, ck6), rfl, Lib.hid ⟨HRst62.out, by rw [HTK.out]; exact HOst62.out, HSst62.out⟩⟩
      case refine_2 =>
        rintro ⟨A2, n2, c2, z5, K6, ck6⟩ w6 H6
        simp only [List.setIfInBounds_toArray, List.set_cons_succ, List.set_cons_zero]
        have HR6 := Lib.hid H6.out.1; have HO6 := Lib.hid H6.out.2.1; have HS6 := Lib.hid H6.out.2.2
        dsimp only at HR6 HO6 HS6
        clear H6
        go_wp2
        go_roundw
        case rel => exact ⟨k + 1, K6, ck6, by omega, by go_num, HR6, HO6, HS6⟩
        case measure => simp [intOf]; omega
end Go.Proofs.YtkplkfokpniflaaDoor.Ra
