/- Walks: sumOf, Sum. Written by tools/mk_rtsum.py. -/
import Derived.Test.YtakglldffpnlaaaGreatDoorRtWalkK
import Derived.Test.YtakglldffpnlaaaGreatDoorShaM2
import Derived.Test.YtakglldffpnlaaaGreatDoorShaM1
namespace Go.Proofs.YtakglldffpnlaaaGreatDoor.Rt
set_option linter.all false
open Go.RowKit
open Wr (Txt Any New bcells gt)

/-- the packages' tables -/
structure Tabs (w : World) : Prop where
  sha : Sha.Tables w
  wr : Wr.Tables w
  sp : Sp.Tab w
theorem Tabs.big {w : World} (h : Tabs w) : 6 ≤ w.heap.size := h.wr.lt
theorem Tabs.below {w w' : World} (h : Tabs w) (hb : Below w.heap.size w w') : Tabs w' := ⟨h.sha.below hb h.big, h.wr.below hb h.big, h.sp.below hb⟩
theorem rn_of_ownG {w : World} {base n c q : Nat} {C : Option Addr} {xs : List Nat} (h : w.ownsRow base 5 1 (.slice C n c) n (bcells xs)) (hx : ∀ j, gt xs j < 256) (hq : q < base) : Sha.Rn w q C xs ∧ xs.length = n ∧ n ≤ c ∧ c ≤ 9223372036854775807 := by
  have hl : xs.length = n := by have := h.1; rw [Wr.bcells_len] at this; omega
  rcases h.2 with ⟨e, h1⟩ | ⟨g, c', cur, e, hg, hc, h1, h2, h3, h4⟩
  · injection e with e1 e2 e3
    subst e1 e2 e3
    obtain rfl : xs = [] := List.eq_nil_of_length_eq_zero hl
    exact ⟨⟨fun j => by simp [Sha.gt], fun h => absurd h (by simp)⟩, hl, Nat.le_refl _, by omega⟩
  · injection e with e1 e2 e3
    subst e1 e3
    exact ⟨Sha.rn_of_own (base := base) h hx (by omega), hl, h1, h2⟩
theorem write_own (g : Nat) (s : Sha.Hs) (C : Option Addr) (bs : List Nat) (n c base : Nat) (w : World) (hS : Sha.HsAt w g s) (hG : Sha.Good s) (hT : Sha.Tables w) (hg : 6 ≤ g) (ho : w.ownsRow base 5 1 (.slice C n c) n (bcells bs)) (hb : g < base) (hx : ∀ j, gt bs j < 256)
    (hm : s.n + n ≤ 1152921504606846976) : Calls Tryz.prog 84 #[.pointer (some ⟨g, 0, none⟩), .slice C n c] w fun e' w' => e' = .returned (.tuple #[]) ∧ Sha.HsAt w' g (Sha.takeAll s bs) ∧ w.grownBy w' (some g) := by
  obtain ⟨h1, h2, h3, h4⟩ := rn_of_ownG ho hx hb
  exact Sha.write_any g s C bs n c w hS hG hT hg h1 h2 h3 h4 hm
/-- a tree and a node of it, where they lie -/
def SmI (d : Nat) (ad : Addr) (n c g i : Nat) (q : NdQ) (W : World) : Prop := TrB d (some ad) n c W g ∧ NdAt W (ad.add (i * 6)) q
theorem SmI.below {d : Nat} {ad : Addr} {n c g i : Nat} {q : NdQ} {W W' : World} (x : SmI d ad n c g i q W) (hb : Below W.heap.size W W') : SmI d ad n c g i q W' :=
  ⟨x.1.below hb x.1.lt, x.2.of_block (hb.block _ (block_lt_of_cell x.2.cells.1))⟩
theorem SmI.grown {d : Nat} {ad : Addr} {n c g i r : Nat} {q : NdQ} {W W' : World} (x : SmI d ad n c g i q W) (hg : W.grownBy W' (some r)) (h1 : g ≠ r) (h2 : ad.block ≠ r) : SmI d ad n c g i q W' :=
  ⟨(hg.block g x.1.lt (by intro e; injection e; omega)).trans x.1, x.2.of_block (hg.block _ (block_lt_of_cell x.2.cells.1) (by rw [Wr.add_block]; intro e; injection e; omega))⟩
theorem unB_lt : ∀ un, ∀ j, gt (unB un) j < 256
  | [] => fun j => by simp [unB, gt, Wr.gt]
  | x :: un => by
    have : unB (x :: un) = Wr.be 2 x.toNat ++ unB un := by simp [unB]
    rw [this]
    exact Wr.gt_append_lt (Wr.be_lt _ _) (unB_lt un)
theorem nodeB_lt {S : Nat → Prop} {w : World} {q : NdQ} {n : Nd} (h : NdIs S w q n) : ∀ j, gt (nodeB n) j < 256 := by
  unfold nodeB
  exact Wr.gt_append_lt (Wr.be_lt _ _) (Wr.gt_append_lt (Wr.txB_lt h.ek.lt) (Wr.gt_append_lt (Wr.txB_lt h.vk.lt) (Wr.gt_append_lt (Wr.txB_lt h.nm.lt) (Wr.gt_append_lt (Wr.txB_lt h.ab.lt) (Wr.gt_append_lt (Wr.be_lt _ _) (unB_lt _))))))
theorem Right.small {ns : List Nd} {d : Nat} (h : Right ns d) (l p : Nat) (hl : l ≤ d) (hp : p < 2 ^ (d - l)) : Small (nd ns (idx l p)) := by
  have hu := h.un_len l p hl hp
  have hd := h.deep
  have h6 : 2 ^ d ≤ 2 ^ 6 := Nat.pow_le_pow_right (by decide) (by omega)
  have hh := h.each l p hl hp
  revert hu hh
  generalize nd ns (idx l p) = nn
  intro hu hh
  have hun : nn.un.length ≤ 100 := by omega
  cases hh with
  | bl e => rw [e]; exact ⟨by decide, by decide, by decide, by decide, by decide, by decide, fun x hx => by cases hx⟩
  | lf _ k =>
    refine ⟨by rw [k.kind]; decide, by rw [k.ek]; decide, by rw [k.vk]; decide, by have := k.nm.2; omega, by rcases k.above with h | h <;> omega, hun, fun x hx => by rw [k.un] at hx; cases hx⟩
  | nod _ k u =>
    refine ⟨by rw [k.kind]; decide, by rw [k.ek]; decide, by rw [k.vk]; decide, by rw [k.nm]; decide, by rcases k.above with h | h <;> omega, hun, fun x hx => ?_⟩
    obtain ⟨h1, h2, _⟩ := (u.each x hx).2
    rw [pow_eq] at h2
    omega
theorem own_len5 {w : World} {base n : Nat} {v : Value} {xs : List Nat} (h : w.ownsRow base 5 1 v n (bcells xs)) : xs.length = n := by have := h.1; rw [Wr.bcells_len] at this; omega
theorem nodeB_len {n : Nd} (h : Small n) : (nodeB n).length ≤ 10000 := by
  have e : ∀ un : List Int, (unB un).length = 2 * un.length := by
    intro un
    induction un with
    | nil => rfl
    | cons x un ih =>
      have : unB (x :: un) = Wr.be 2 x.toNat ++ unB un := by simp [unB]
      rw [this, List.length_append, Wr.be_len, ih, List.length_cons]; omega
  unfold nodeB
  simp only [List.length_append, Wr.be_len, Wr.txB_len, e]
  have h1 := h.ek; have h2 := h.vk; have h3 := h.nm; have h4 := h.ab; have h5 := h.un
  have a1 := (Wr.szB_pos n.ek.length).2; have a2 := (Wr.szB_pos n.vk.length).2; have a3 := (Wr.szB_pos n.name.length).2; have a4 := (Wr.szB_pos n.above.length).2
  omega

def rests (ns : List Nd) : Nat → Nat → List Nat
  | 0, _ => []
  | l + 1, p => sumF ns l (2 * p) ++ sumF ns l (2 * p + 1)
theorem sumF_eq (ns : List Nd) (l p : Nat) : sumF ns l p = Sha.sum (nodeB (nd ns (idx l p)) ++ rests ns l p) := by
  cases l with
  | zero => rw [rests, List.append_nil, sumF]
  | succ l => rw [rests, sumF]
theorem sumF_len (ns : List Nd) (l p : Nat) : (sumF ns l p).length = 32 := by rw [sumF_eq]; exact Sha.sum_len _
theorem sumF_lt (ns : List Nd) (l p : Nat) : ∀ j, gt (sumF ns l p) j < 256 := by rw [sumF_eq]; exact Sha.sum_lt _

theorem hsum_n {bs : List Nat} (hx : ∀ j, gt bs j < 256) (hl : bs.length ≤ 10000) : Sha.Good (Sha.takeAll Sha.start bs) ∧ (Sha.takeAll Sha.start bs).n ≤ 1152921504606846000 :=
  ⟨Sha.good_takeAll bs Sha.good_start hx, by rw [Sha.takeAll_n]; show 0 + bs.length ≤ _; omega⟩

def restTo (ns : List Nd) (l p : Nat) : Nat → List Nat
  | 0 => []
  | j + 1 => restTo ns l p j ++ sumF ns l (2 * p + j)
theorem restTo_len (ns : List Nd) (l p : Nat) : ∀ j, (restTo ns l p j).length = 32 * j
  | 0 => rfl
  | j + 1 => by rw [restTo, List.length_append, restTo_len ns l p j, sumF_len]; omega
theorem restTo_lt (ns : List Nd) (l p : Nat) : ∀ j i, gt (restTo ns l p j) i < 256
  | 0, i => by simp [restTo, gt, Wr.gt]
  | j + 1, i => by rw [restTo]; exact Wr.gt_append_lt (restTo_lt ns l p j) (sumF_lt _ _ _) i
/-- while the halves' sums are written -/
structure SumI (d : Nat) (A : Option Addr) (n c : Nat) (w : World) (h : Nat) (hv : Array Value) (bs : List Nat) (W : World) : Prop where
  hs : Sha.HsAt W (w.heap.size + 1) (Sha.takeAll Sha.start bs)
  hv : W.heap[h]? = some (.cells hv 48 (0, 0))
  tr : TrB d A n c W w.heap.size
  bl : Below w.heap.size w W
theorem SumI.below {d : Nat} {A : Option Addr} {n c : Nat} {w : World} {h : Nat} {hv : Array Value} {bs : List Nat} {W W' : World} (x : SumI d A n c w h hv bs W) (hb : Below W.heap.size W W') : SumI d A n c w h hv bs W' :=
  ⟨x.hs.below hb x.hs.lt, (hb.block h (Array.getElem?_eq_some_iff.1 x.hv).1).trans x.hv, x.tr.below hb x.tr.lt, x.bl.trans (hb.mono x.bl.size)⟩
theorem SumI.write {d : Nat} {A : Option Addr} {n c : Nat} {w : World} {h : Nat} {hv : Array Value} {bs bs' : List Nat} {W W' : World} (x : SumI d A n c w h hv bs W) (hs : Sha.HsAt W' (w.heap.size + 1) (Sha.takeAll Sha.start bs')) (hg : W.grownBy W' (some (w.heap.size + 1))) (hh : w.heap.size + 1 < h) : SumI d A n c w h hv bs' W' :=
  ⟨hs, (hg.block h (Array.getElem?_eq_some_iff.1 x.hv).1 (by intro e; injection e; omega)).trans x.hv, (hg.block _ x.tr.lt (by intro e; injection e; omega)).trans x.tr, Sha.below_of_only x.bl hg (by omega)⟩

def SumP (d : Nat) (A : Option Addr) (n c : Nat) (ns : List Nd) (l : Nat) : Prop :=
  ∀ p re im w, l ≤ d → p < 2 ^ (d - l) → Sp.Is re im (some (l, p)) → Tabs w → Nodes Any Any w A n c ns → Calls Tryz.prog 57 #[.agg #[.int .i64 d, .slice A n c], .complex .f64 re im] w fun e w' =>
    ∃ h cap, e = .returned (.slice (some ⟨h, 0, none⟩) 32 cap) ∧ w'.ownsRow w.heap.size 5 1 (.slice (some ⟨h, 0, none⟩) 32 cap) 32 (bcells (sumF ns l p)) ∧ Below w.heap.size w w'

set_option maxHeartbeats 8000000 in
set_option maxRecDepth 100000 in
theorem sumOf_step (d : Nat) (A : Option Addr) (n c : Nat) (ns : List Nd) (hR : Right ns d) (l : Nat) (ih : ∀ l0, l = l0 + 1 → SumP d A n c ns l0) : SumP d A n c ns l := by
  intro p re im w hl hp hs hT hN
  have hi := idx_lt hl hp
  rw [← hR.len, hN.len] at hi
  have CI := Lib.hid (idx_c hs)
  have HSM := Lib.hid (hR.small l p hl hp)
  obtain ⟨ad, rfl⟩ := hN.some (by omega)
  obtain ⟨q, q1, q2⟩ := hN.at (idx l p) hi
  have hlt0 : ad.block < w.heap.size := (hN.2.2.2.2.1 ad rfl).2 (by omega)
  have hi' : ((idx l p : Nat) : Int) < (n : Int) := by omega
  have HLT := Lib.hid (nodeB_lt q2)
  have HIX : Hid (l ≤ d ∧ p < 2 ^ (d - l) ∧ Sp.Is re im (some (l, p))) := Lib.hid ⟨hl, hp, hs⟩
  have HIX2 := Lib.hid (sumF_eq ns l p)
  have HD16 : Hid (d ≤ 16) := Lib.hid (by have := hR.deep; omega)
  obtain ⟨i, hid⟩ : ∃ i, idx l p = i := ⟨_, rfl⟩
  rw [hid] at CI hi hi' q1 q2 HSM HLT HIX2
  obtain ⟨nn, hnn⟩ : ∃ nn, nd ns i = nn := ⟨_, rfl⟩
  rw [hnn] at q2 HSM HLT
  rw [hnn] at HIX2
  have HML : Hid (∀ (m c : Nat) {W : World} {base : Nat} {C : Option Addr}, W.ownsRow base 5 1 (.slice C m c) m (bcells (nodeB nn)) → m ≤ 10000) := Lib.hid fun m c W base C h => by rw [← own_len5 h]; exact nodeB_len HSM.out
  obtain ⟨W0, hW0, g1, hB0⟩ := one_new w d (some ad) n c
  have hs0 : W0.heap.size = w.heap.size + 1 := by rw [← hW0]; simp
  have HTB := Lib.hid hT; have HNO := Lib.hid hN; have HIH := Lib.hid ih; have HADL := Lib.hid hlt0
  have HT0 := Lib.hid (hT.below hB0); have HG0 := Lib.hid g1; have HB0 := Lib.hid hB0
  have HQ0 := Lib.hid (q1.of_block (w' := W0) (hB0.block _ (by rw [Wr.add_block]; exact hlt0)))
  have HQI := Lib.hid q2
  obtain ⟨k, A1, n1, c1, A2, n2, c2, A3, n3, c3, A4, n4, c4, A5, n5, c5⟩ := q
  clear hl hp hs hT hN hR hid hnn ih hlt0 q1 q2 g1 hB0
  go_enter Tryz.func57, Tryz.ntmps57
  go_wp2_with fail
  refine (Sha.new_any _ HT0.out.sha).mono ?_
  rintro e' W1 ⟨rfl, hs1, hb1, hz1⟩
  rw [hs0] at hs1 ⊢
  have HS1 : Hid (Sha.HsAt W1.drew (w.heap.size + 1) Sha.start) := Lib.hid hs1.drew
  have HB1 : Hid (Below w.heap.size w W1.drew) := Lib.hid (HB0.out.trans (hb1.mono HB0.out.size)).drew
  have KS : Hid (SmI d ad n c w.heap.size i ⟨k, A1, n1, c1, A2, n2, c2, A3, n3, c3, A4, n4, c4, A5, n5, c5⟩ W1.drew) := Lib.hid (show SmI d ad n c w.heap.size i ⟨k, A1, n1, c1, A2, n2, c2, A3, n3, c3, A4, n4, c4, A5, n5, c5⟩ W1 from SmI.below ⟨HG0.out, HQ0.out⟩ hb1)
  have HQ : Hid (NdIs Any W1.drew ⟨k, A1, n1, c1, A2, n2, c2, A3, n3, c3, A4, n4, c4, A5, n5, c5⟩ nn) := Lib.hid (HQI.out.below HB1.out)
  have hz1d : W1.drew.heap.size = w.heap.size + 2 := by show W1.heap.size = _; omega
  clear hs1 hb1 HG0 HQ0 HQI HB0 HT0 hz1 hW0
  go_wp2_with fail
  try simp only [Act.put]
  refine Wr.region_calm ?_
  refine wp_region_any (by kernel_rfl) ?_
  change wpAny _ _ _ _ _ _ _ (World.drew W1)
  refine wpAny_of_held (S := SmI d ad n c w.heap.size i ⟨k, A1, n1, c1, A2, n2, c2, A3, n3, c3, A4, n4, c4, A5, n5, c5⟩) _ _ _ _ ?_
  refine wpAnyH_take (i := 0) (v := ?vd1) rfl (by kernel_rfl) (by kernel_rfl) (by kernel_rfl) (fun _ _ _ h => h) (Or.inl ⟨by rfl, ?yd1⟩) KS.out ?rd1
  case yd1 => (intro w' hSw; clear hSw; go_simp; try with_reducible rfl)
  simp only [List.getElem_toArray, List.getElem_cons_succ, List.getElem_cons_zero, Act.put, List.setIfInBounds_toArray, List.set_cons_zero, List.set_cons_succ]
  refine wpAnyH_take (i := 1) (v := ?vd2) rfl (by kernel_rfl) (by kernel_rfl) (by kernel_rfl) (fun _ _ _ h => h) (Or.inl ⟨by rfl, ?yd2⟩) KS.out ?rd2
  case yd2 => (intro w' hSw; clear hSw; go_simp; try with_reducible rfl)
  simp only [List.getElem_toArray, List.getElem_cons_succ, List.getElem_cons_zero, Act.put, List.setIfInBounds_toArray, List.set_cons_zero, List.set_cons_succ]
  refine wpAnyH_take (i := 2) (v := ?vd3) rfl (by kernel_rfl) (by kernel_rfl) (by kernel_rfl) (fun _ _ _ h => h) (Or.inl ⟨by rfl, ?yd3⟩) KS.out ?rd3
  case yd3 => (intro w' hSw; obtain ⟨t0, t1⟩ := hSw.1.cs; obtain ⟨u0, u1, u2, u3, u4, u5⟩ := hSw.2.cells; clear hSw; go_simp; try with_reducible rfl)
  simp only [List.getElem_toArray, List.getElem_cons_succ, List.getElem_cons_zero, Act.put, List.setIfInBounds_toArray, List.set_cons_zero, List.set_cons_succ]
  refine wpAnyH_take (i := 3) (v := ?vd4) rfl (by kernel_rfl) (by kernel_rfl) (by kernel_rfl) (fun _ _ _ h => h) (Or.inl ⟨by rfl, ?yd4⟩) KS.out ?rd4
  case yd4 => (intro w' hSw; clear hSw; go_simp; try with_reducible rfl)
  simp only [List.getElem_toArray, List.getElem_cons_succ, List.getElem_cons_zero, Act.put, List.setIfInBounds_toArray, List.set_cons_zero, List.set_cons_succ]
  refine wpAnyH_ready (rs := [4]) (by kernel_rfl) (by simp) ?_
  refine AllReadyH.cons rfl (fun K' hK => ?_) AllReadyH.nil
  simp only [List.getElem_toArray, List.getElem_cons_succ, List.getElem_cons_zero]
  go_simp
  refine (Sp.index_c CI.out _).mono ?_
  rintro e' w3 ⟨rfl, rfl⟩
  refine hK.out _ _ KS.out (fun _ => ?_)
  clear hK
  try simp only [List.getElem_toArray, List.getElem_cons_succ, List.getElem_cons_zero, Act.put, List.setIfInBounds_toArray, List.set_cons_zero, List.set_cons_succ]
  refine wpAnyH_take (i := 5) (v := ?vd5) rfl (by kernel_rfl) (by kernel_rfl) (by kernel_rfl) (fun _ _ _ h => h) (Or.inl ⟨by rfl, ?yd5⟩) KS.out ?rd5
  case yd5 => (intro w' hSw; clear hSw; go_simp; try with_reducible rfl)
  simp only [List.getElem_toArray, List.getElem_cons_succ, List.getElem_cons_zero, Act.put, List.setIfInBounds_toArray, List.set_cons_zero, List.set_cons_succ]
  refine wpAnyH_take (i := 6) (v := ?vd6) rfl (by kernel_rfl) (by kernel_rfl) (by kernel_rfl) (fun _ _ _ h => h) (Or.inl ⟨by rfl, ?yd6⟩) KS.out ?rd6
  case yd6 => (intro w' hSw; obtain ⟨t0, t1⟩ := hSw.1.cs; obtain ⟨u0, u1, u2, u3, u4, u5⟩ := hSw.2.cells; clear hSw; go_simp; try with_reducible rfl)
  simp only [List.getElem_toArray, List.getElem_cons_succ, List.getElem_cons_zero, Act.put, List.setIfInBounds_toArray, List.set_cons_zero, List.set_cons_succ]
  refine wpAnyH_ready (rs := [7]) (by kernel_rfl) (by simp) ?_
  refine AllReadyH.cons rfl (fun K' hK => ?_) AllReadyH.nil
  simp only [List.getElem_toArray, List.getElem_cons_succ, List.getElem_cons_zero]
  go_simp
  refine (nodeBytes_own ⟨k, A1, n1, c1, A2, n2, c2, A3, n3, c3, A4, n4, c4, A5, n5, c5⟩ nn W1.drew (HTB.out.below HB1.out).wr HQ.out HSM.out).mono ?_
  rintro e' w3 ⟨C, m, cc, rfl, ho3, hb3⟩
  have KS1 := Lib.hid (KS.out.below hb3)
  have HO3 := Lib.hid ho3; have HB3 := Lib.hid (HB1.out.trans (hb3.mono HB1.out.size))
  have HS3 := Lib.hid (HS1.out.below hb3 HS1.out.lt)
  have hz3 := hb3.size
  clear ho3 hb3
  refine hK.out _ _ KS1.out (fun _ => ?_)
  clear hK
  try simp only [List.getElem_toArray, List.getElem_cons_succ, List.getElem_cons_zero, Act.put, List.setIfInBounds_toArray, List.set_cons_zero, List.set_cons_succ]
  refine wpAnyH_ready (rs := [8]) (by kernel_rfl) (by simp) ?_
  refine AllReadyH.cons rfl (fun K' hK => ?_) AllReadyH.nil
  simp only [List.getElem_toArray, List.getElem_cons_succ, List.getElem_cons_zero]
  go_simp
  refine (write_own (w.heap.size + 1) Sha.start C (nodeB nn) m cc (W1.drew.heap.size + 1) w3 HS3.out Sha.good_start (HTB.out.below HB3.out).sha (by have := HTB.out.big; omega) HO3.out (by have := HS1.out.lt; omega) HLT.out (by have := HML.out m cc HO3.out; show 0 + m ≤ _; omega)).mono ?_
  rintro e' w4 ⟨rfl, hs4, hg4⟩
  have KS2 := Lib.hid (KS1.out.grown hg4 (by omega) (by have := HADL.out; omega))
  have HS4 := Lib.hid hs4; have HB4 := Lib.hid (Sha.below_of_only HB3.out hg4 (by omega))
  clear hs4 hg4
  refine hK.out _ _ KS2.out (fun _ => ?_)
  clear hK
  try simp only [List.getElem_toArray, List.getElem_cons_succ, List.getElem_cons_zero, Act.put, List.setIfInBounds_toArray, List.set_cons_zero, List.set_cons_succ]
  refine wpAnyH_done (by kernel_rfl) ?_ _
  change Exit.then _ _ Exit.normal _ _
  clear KS KS1 HQ HO3 HS3 HS1 HB1 hz1d
  have hlt4 := KS2.out.1.lt
  have hls4 := HS4.out.lt
  have hz4 := HB4.out.size
  rcases l with _ | l0
  · have HE : Hid (Sha.sumOf (Sha.takeAll Sha.start (nodeB nn)) = sumF ns 0 p) := Lib.hid (by rw [HIX2.out, rests, List.append_nil]; rfl)
    have HSM5 := Lib.hid (hsum_n HLT.out (nodeB_len HSM.out))
    go_wp2_with (first
      | (go_at_call 82; refine (below_leaf re im p _ HIX.out.2.2).mono ?_; rintro e' w5 ⟨rfl, rfl⟩)
      | go_in)
    go_loopw [21] (fun i W => i = .int .i64 0 ∧ w4 = W) (fun _ _ => 0)
    case atStart => exact ⟨rfl, rfl⟩
    case round =>
      obtain ⟨rfl, rfl⟩ := hrel
      go_wp2_with (first
        | (go_at_call 85; refine (Sha.hsum_any (w.heap.size + 1) _ _ HS4.out HSM5.out.1 (HTB.out.below HB4.out).sha HSM5.out.2).mono ?_; rintro e' w6 ⟨h, cap, rfl, ho6, hb6⟩; have HO6 := Lib.hid ho6; have HB6 := Lib.hid (HB4.out.trans (hb6.mono hz4)); clear ho6 hb6)
        | go_in)
      go_ret
      refine ⟨h, cap, rfl, ?_, HB6.out⟩
      rw [← HE.out]
      exact own_downG HO6.out hz4
  · have HIH0 := Lib.hid (HIH.out l0 rfl)
    have HHF : Hid (∀ j : Nat, j < 2 → 2 * p + j < 2 ^ (d - l0) ∧ Sp.Is (Fl.fl l0) (Fl.fl (2 * p + j)) (some (l0, 2 * p + j))) := Lib.hid fun j hj => by
      obtain ⟨p1, p2⟩ := half_lt HIX.out.1 HIX.out.2.1
      exact ⟨by omega, is_half HIX.out.1 HIX.out.2.1 HD16.out j hj⟩
    obtain ⟨hv, hhv⟩ : ∃ hv : Array Value, #[.complex .f64 (Fl.fl l0) (Fl.fl (2 * p)), .complex .f64 (Fl.fl l0) (Fl.fl (2 * p + 1))] = hv := ⟨_, rfl⟩
    have HHV : Hid (∀ j : Nat, j < 2 → hv[j]? = some (.complex .f64 (Fl.fl l0) (Fl.fl (2 * p + j)))) := Lib.hid fun j hj => by
      rw [← hhv]
      have e : j = 0 ∨ j = 1 := by omega
      rcases e with rfl | rfl <;> rfl
    have HI5 : Hid (SumI d (some ad) n c w w4.heap.size hv (nodeB nn ++ restTo ns l0 p 0) (w4.alloc (.cells hv 48))) := Lib.hid
      ⟨by rw [restTo, List.append_nil]; exact HS4.out.alloc _, heap_alloc_last w4 _, KS2.out.1.below (below_one w4 _) KS2.out.1.lt, HB4.out.alloc hz4 _⟩
    go_wp2_with (first
      | (go_at_call 82; refine (below_node re im l0 p _ HIX.out.2.2).mono ?_; rintro e' w5 ⟨rfl, hw5⟩; rw [hhv] at hw5; subst hw5)
      | go_in)
    generalize w4.alloc (.cells hv 48) = w5 at *
    obtain ⟨h, hh⟩ : ∃ h, w4.heap.size = h := ⟨_, rfl⟩
    rw [hh] at HI5 hlt4 hls4
    simp only [hh]
    clear hh hz4 HS4 KS2 HB4 hhv
    go_loopw [21] (fun i W => ∃ j : Nat, j ≤ 2 ∧ i = .int .i64 j ∧ Hid (SumI d (some ad) n c w h hv (nodeB nn ++ restTo ns l0 p j) W)) (fun i _ => 2 - (intOf i).toNat)
    case atStart => exact ⟨0, by omega, rfl, HI5⟩
    case round =>
      clear HI5
      obtain ⟨j, hj, rfl, HI⟩ := hrel
      by_cases hj2 : j < 2
      · have yj : (j : Int) < 2 := by omega
        have hcj : wr.cell? ⟨h, j, none⟩ = some (.complex .f64 (Fl.fl l0) (Fl.fl (2 * p + j))) := by rw [cell_of_row _ _ j _ _ _ HI.out.hv]; exact HHV.out j hj2
        obtain ⟨q0, q1⟩ := HI.out.tr.cs
        have C9 := Lib.hid (HIH0.out (2 * p + j) (Fl.fl l0) (Fl.fl (2 * p + j)) wr (by have := HIX.out.1; omega) (HHF.out j hj2).1 (HHF.out j hj2).2 (HTB.out.below HI.out.bl) (HNO.out.below HI.out.bl))
        have HLS : Hid (∀ i, gt (nodeB nn ++ restTo ns l0 p j) i < 256) := Lib.hid (Wr.gt_append_lt HLT.out (restTo_lt ns l0 p j))
        have HNX : Hid (nodeB nn ++ restTo ns l0 p (j + 1) = (nodeB nn ++ restTo ns l0 p j) ++ sumF ns l0 (2 * p + j)) := Lib.hid (by rw [restTo, List.append_assoc])
        have HSG : Hid (Sha.Good (Sha.takeAll Sha.start (nodeB nn ++ restTo ns l0 p j)) ∧ (Sha.takeAll Sha.start (nodeB nn ++ restTo ns l0 p j)).n + 32 ≤ 1152921504606846976) := Lib.hid
          ⟨Sha.good_takeAll _ Sha.good_start HLS.out, by rw [Sha.takeAll_n, List.length_append, restTo_len]; have := nodeB_len HSM.out; show 0 + _ + 32 ≤ _; omega⟩
        have hg1 := HI.out.hs.lt
        obtain ⟨x, hx⟩ : ∃ x, Fl.fl l0 = x := ⟨_, rfl⟩
        obtain ⟨y, hy⟩ : ∃ y, Fl.fl (2 * p + j) = y := ⟨_, rfl⟩
        rw [hx, hy] at hcj C9
        clear hx hy HLS
        go_wp2_with (first
          | (go_at_call 57; refine C9.out.mono ?_; rintro e' w6 ⟨h6, cap6, rfl, ho6, hb6⟩; have HO6 := Lib.hid ho6; have HI6 := Lib.hid (HI.out.below hb6); clear ho6 hb6)
          | (go_at_call 84; refine (write_own (w.heap.size + 1) _ _ (sumF ns l0 (2 * p + j)) 32 cap6 wr.heap.size w6 HI6.out.hs HSG.out.1 (HTB.out.below HI6.out.bl).sha (by have := HTB.out.big; omega) HO6.out (by omega) (sumF_lt _ _ _) HSG.out.2).mono ?_; rintro e' w7 ⟨rfl, hs7, hg7⟩; have HI7 : Hid (SumI d (some ad) n c w h hv (nodeB nn ++ restTo ns l0 p (j + 1)) w7) := Lib.hid (by rw [HNX.out]; exact HI6.out.write (by rw [Sha.takeAll_append]; exact hs7) hg7 (by omega)); clear hs7 hg7)
          | go_in)
        go_roundw
        case rel => exact ⟨j + 1, by omega, by go_num, HI7⟩
        case measure => simp [intOf]; omega
      · obtain rfl : j = 2 := by omega
        have HE : Hid (Sha.sumOf (Sha.takeAll Sha.start (nodeB nn ++ restTo ns l0 p 2)) = sumF ns (l0 + 1) p) := Lib.hid (by rw [HIX2.out]; show Sha.sum (nodeB nn ++ restTo ns l0 p 2) = _; simp [restTo, rests])
        have HSG : Hid (Sha.Good (Sha.takeAll Sha.start (nodeB nn ++ restTo ns l0 p 2)) ∧ (Sha.takeAll Sha.start (nodeB nn ++ restTo ns l0 p 2)).n ≤ 1152921504606846000) := Lib.hid
          ⟨Sha.good_takeAll _ Sha.good_start (Wr.gt_append_lt HLT.out (restTo_lt ns l0 p 2)), by rw [Sha.takeAll_n, List.length_append, restTo_len]; have := nodeB_len HSM.out; show 0 + _ ≤ _; omega⟩
        have hzz := HI.out.bl.size
        go_wp2_with (first
          | (go_at_call 85; refine (Sha.hsum_any (w.heap.size + 1) _ _ HI.out.hs HSG.out.1 (HTB.out.below HI.out.bl).sha HSG.out.2).mono ?_; rintro e' w6 ⟨h6, cap6, rfl, ho6, hb6⟩; have HO6 := Lib.hid ho6; have HB6 := Lib.hid (HI.out.bl.trans (hb6.mono hzz)); clear ho6 hb6)
          | go_in)
        go_ret
        refine ⟨h6, cap6, rfl, ?_, HB6.out⟩
        rw [← HE.out]
        exact own_downG HO6.out hzz
theorem sumOf_all (d : Nat) (A : Option Addr) (n c : Nat) (ns : List Nd) (hR : Right ns d) : ∀ l, SumP d A n c ns l := by
  intro l
  induction l with
  | zero => exact sumOf_step d A n c ns hR 0 fun l0 h => by omega
  | succ l ih => exact sumOf_step d A n c ns hR (l + 1) fun l0 h => by obtain rfl : l = l0 := (by omega); exact ih

/-- what Sum tells -/
noncomputable def sumT (D : Int) (ns : List Nd) (o : Option (Nat × Nat)) : List Nat :=
  @ite _ (RightT D ns ∧ ∃ l p, o = some (l, p) ∧ l ≤ D.toNat ∧ p < 2 ^ (D.toNat - l)) (Classical.propDecidable _) (match o with | some (l, p) => sumF ns l p | none => []) []
theorem sumT_yes {ns : List Nd} {d l p : Nat} (h : Right ns d) (hl : l ≤ d) (hp : p < 2 ^ (d - l)) : sumT d ns (some (l, p)) = sumF ns l p := by unfold sumT; rw [if_pos ⟨⟨d, rfl, h⟩, l, p, rfl, hl, hp⟩]
theorem sumT_no {D : Int} {ns : List Nd} {o : Option (Nat × Nat)} (h : ¬ ∃ d : Nat, D = d ∧ Right ns d ∧ ∃ l p, o = some (l, p) ∧ l ≤ d ∧ p < 2 ^ (d - l)) : sumT D ns o = [] := by
  unfold sumT
  rw [if_neg]
  rintro ⟨⟨d, rfl, hr⟩, l, p, ho, hl, hp⟩
  exact h ⟨d, rfl, hr, l, p, ho, hl, hp⟩

set_option maxHeartbeats 4000000 in
set_option maxRecDepth 100000 in
theorem sum_any (D : Int) (A : Option Addr) (n c : Nat) (ns : List Nd) (re im : Nat) (o : Option (Nat × Nat)) (w : World) (hN : Nodes Any Any w A n c ns) (hT : Tabs w) (ho : Sp.Is re im o) :
    Calls Tryz.prog 25 #[.agg #[.int .i64 D, .slice A n c], .complex .f64 re im] w (Wr.Told (sumT D ns o) w) := by
  obtain ⟨W0, hW0, g1, hB0⟩ := one_new w D A n c
  have B0 := Lib.hid hB0
  have G1 := Lib.hid g1
  have hN0 := hN.below hB0
  have hT0 := hT.below hB0
  obtain ⟨q0, q1⟩ := g1.cs
  have hlt := g1.lt
  clear hB0 g1 hN hT
  by_cases hr : ∃ d : Nat, D = d ∧ Right ns d ∧ ∃ l p, o = some (l, p) ∧ l ≤ d ∧ p < 2 ^ (d - l)
  · have C1 := Lib.hid (hasSpot_is D A n c ns re im o true W0 hN0 hT0.sp ho (by simp [hr]))
    obtain ⟨d, rfl, hR, l, p, rfl, hl, hp⟩ := hr
    rw [sumT_yes hR hl hp]
    have HN := Lib.hid hN0; have HT := Lib.hid hT0
    have C2 := Lib.hid fun w h1 h2 => sumOf_all d A n c ns hR l p re im w hl hp ho h1 h2
    clear hN0 hT0 hR hl hp ho
    go_enter Tryz.func25, Tryz.ntmps25
    go_wp2_with (first
      | (go_at_call 54; refine C1.out.mono ?_; rintro e' w2 ⟨rfl, hb2⟩; have HW2 := Lib.hid (B0.out.trans (hb2.mono B0.out.size)); have HN2 := Lib.hid (HN.out.below hb2); have HT2 := Lib.hid (HT.out.below hb2); obtain ⟨t0, t1⟩ := (G1.out.below hb2 hlt).cs; clear hb2 q0 q1)
      | (go_at_call 57; refine (C2.out w2 HT2.out HN2.out).mono ?_; rintro e' w3 ⟨h3, cap3, rfl, ho3, hb3⟩; have HX3 := Lib.hid (Wr.Txt.of_own ho3 (sumF_lt _ _ _)); have HW3 := Lib.hid (HW2.out.trans (hb3.mono HW2.out.size)); clear ho3 hb3)
      | go_in)
    go_ret
    obtain ⟨A3, c3, e3, hX3⟩ := HX3.out
    injection e3 with ea eb ec
    subst ea ec
    exact ⟨_, _, _, rfl, hX3.mono (Wr.New.mono HW2.out.size), HW3.out⟩
  · have C1 := Lib.hid (hasSpot_is D A n c ns re im o false W0 hN0 hT0.sp ho (by simp [hr]))
    rw [sumT_no hr]
    clear hN0 hT0 hr ho
    go_enter Tryz.func25, Tryz.ntmps25
    go_wp2_with (first | (go_at_call 54; refine C1.out.mono ?_; rintro e' w2 ⟨rfl, hb2⟩; have HW2 := Lib.hid (B0.out.trans (hb2.mono B0.out.size)); clear hb2) | go_in)
    go_ret
    exact ⟨none, 0, 0, rfl, Txt.nil _ _, HW2.out⟩
end Go.Proofs.YtakglldffpnlaaaGreatDoor.Rt
