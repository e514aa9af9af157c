/- Walks: Write. -/
import Derived.Test.YtfcnhendebjjeaaDoorShaWalkC
namespace Go.Proofs.YtfcnhendebjjeaaDoor.Sha
set_option linter.all false
open Go.RowKit

theorem add_add (a : Addr) (i j : Nat) : (a.add i).add j = a.add (i + j) := by
  unfold Addr.add
  by_cases hi : i = 0
  · subst hi; simp
  · by_cases hj : j = 0
    · subst hj; simp [hi]
    · simp [hi, hj, Nat.add_assoc]
theorem add_block (a : Addr) (i : Nat) : (a.add i).block = a.block := by unfold Addr.add; split <;> rfl
/-- a slice of bytes that lies in another block than g, nil let in -/
def Rn (w : World) (g : Nat) (A : Option Addr) (bs : List Nat) : Prop :=
  (∀ j, gt bs j < 256) ∧ (0 < bs.length → ∃ ad : Addr, A = some ad ∧ ad.block ≠ g ∧ ad.block < w.heap.size ∧ ∀ j, j < bs.length → w.cell? (ad.add j) = some (.int .u8 (gt bs j : Nat)))
theorem Rn.grown {w w' : World} {g : Nat} {A : Option Addr} {bs : List Nat} (h : Rn w g A bs) (hg : w.grownBy w' (some g)) : Rn w' g A bs := by
  refine ⟨h.1, fun hn => ?_⟩
  obtain ⟨ad, h1, h2, h3, h4⟩ := h.2 hn
  refine ⟨ad, h1, h2, Nat.lt_of_lt_of_le h3 hg.size, fun j hj => ?_⟩
  rw [World.cell?_of_block (w := w) (w' := w') (hg.block _ (by rw [add_block]; exact h3) (by intro e; injection e with e; rw [add_block] at e; exact h2 e))]
  exact h4 j hj
theorem Rd.apart {w : World} {B g : Nat} {A : Option Addr} {bs : List Nat} (h : Rd w B A bs) (hB : B ≤ g) (hw : B ≤ w.heap.size) : Rn w g A bs := by
  refine ⟨h.1, fun hn => ?_⟩
  obtain ⟨ad, h1, h2, h3⟩ := h.2 hn
  exact ⟨ad, h1, by omega, by omega, h3⟩
theorem Rn.drop {w : World} {g : Nat} {ad : Addr} {bs : List Nat} (h : Rn w g (some ad) bs) (k : Nat) {A : Option Addr} (hA : k < bs.length → A = some (ad.add k)) : Rn w g A (bs.drop k) := by
  have hd : ∀ j, gt (bs.drop k) j = gt bs (k + j) := fun j => by
    unfold gt; rw [List.getD_eq_getElem?_getD, List.getD_eq_getElem?_getD, List.getElem?_drop]
  refine ⟨fun j => by rw [hd]; exact h.1 _, fun hn => ?_⟩
  rw [List.length_drop] at hn
  obtain ⟨ad', h1, h2, h3, h4⟩ := h.2 (by omega)
  injection h1 with h1
  subst h1
  refine ⟨_, hA (by omega), by rw [add_block]; exact h2, by rw [add_block]; exact h3, fun j hj => ?_⟩
  rw [List.length_drop] at hj
  rw [add_add, h4 _ (by omega), hd]
/-- the cells of a hash, as a list -/
def hcells (s : Hs) : List Value := (List.range 73).map (hsF s)
theorem hcells_at (s : Hs) (i : Nat) (h : i < 73) : (hcells s)[i]? = some (hsF s i) := by
  unfold hcells; rw [List.getElem?_map, List.getElem?_range h]; rfl
theorem hcells_len (s : Hs) : (hcells s).length = 73 := by simp [hcells]
theorem HsAt.heap {w : World} {g : Nat} {s : Hs} (h : HsAt w g s) : w.heap[g]? = some (.cells (hcells s).toArray 60 (0, 0)) := by
  obtain ⟨c, hc, hs, hi⟩ := h
  have e : c = (hcells s).toArray := by
    apply Array.ext_getElem?
    intro i
    by_cases h : i < 73
    · rw [hi i h, List.getElem?_toArray, hcells_at s i h]
    · rw [Array.getElem?_eq_none (by omega), List.getElem?_toArray, List.getElem?_eq_none (by rw [hcells_len]; omega)]
  rw [hc, e]
theorem HsAt.of_heap {w : World} {g : Nat} {s : Hs} (h : w.heap[g]? = some (.cells (hcells s).toArray 60 (0, 0))) : HsAt w g s :=
  ⟨_, h, by simp [hcells_len], fun i hi => by rw [List.getElem?_toArray]; exact hcells_at s i hi⟩
def bcells (bs : List Nat) : List Value := bs.map fun x => Value.int .u8 ((x : Nat) : Int)
theorem bcells_len (bs : List Nat) : (bcells bs).length = bs.length := by simp [bcells]
theorem bcells_one (bs : List Nat) : ∀ u ∈ bcells bs, u.oneCell' = true := by
  intro u hu
  obtain ⟨x, _, rfl⟩ := List.mem_map.1 hu
  rfl
theorem bcells_at (bs : List Nat) (i : Nat) (h : i < bs.length) : (bcells bs)[i]? = some (.int .u8 ((gt bs i : Nat) : Int)) := by
  simp [bcells, gt, List.getD_eq_getElem?_getD, h]
theorem gt_take (l : List Nat) (k i : Nat) (h : i < k) : gt (l.take k) i = gt l i := by
  unfold gt; rw [List.getD_eq_getElem?_getD, List.getD_eq_getElem?_getD, List.getElem?_take_of_lt h]
/-- the copy's row -/
theorem splice_cells (s : Hs) (o : Nat) (l : List Nat) (h : o + l.length ≤ 64) :
    (hcells s).take (8 + o) ++ (bcells l ++ (hcells s).drop (8 + o + (bcells l).length)) = hcells ⟨s.st, over s.buf o l, s.n⟩ := by
  apply List.ext_getElem?
  intro i
  have hl := hcells_len s
  have hb := bcells_len l
  have hmin : min (8 + o) 73 = 8 + o := by omega
  by_cases hi : i < 73
  · rw [hcells_at _ i hi, List.getElem?_append, List.getElem?_append]
    simp only [List.length_take, hl, hb, hmin]
    by_cases h1 : i < 8 + o
    · rw [if_pos h1, List.getElem?_take_of_lt h1, hcells_at s i hi]
      by_cases h8 : i < 8
      · simp only [hsF, if_pos h8]
      · simp only [hsF, if_neg h8, if_pos (show i < 72 by omega)]
        unfold over
        rw [gt_tab _ _ _ (by omega), if_neg (by omega)]
    · rw [if_neg h1]
      have h8 : ¬ i < 8 := by omega
      by_cases h2 : i < 8 + o + l.length
      · rw [if_pos (by omega), bcells_at _ _ (by omega)]
        simp only [hsF, if_neg h8, if_pos (show i < 72 by omega)]
        unfold over
        rw [gt_tab _ _ _ (by omega), if_pos (by omega)]
        rw [show i - (8 + o) = i - 8 - o by omega]
      · rw [if_neg (by omega), List.getElem?_drop]
        have e : 8 + o + l.length + (i - (8 + o) - l.length) = i := by omega
        rw [e, hcells_at s i hi]
        by_cases h3 : i < 72
        · simp only [hsF, if_neg h8, if_pos h3]
          unfold over
          rw [gt_tab _ _ _ (by omega), if_neg (by omega)]
        · simp only [hsF, if_neg h8, if_neg h3]
  · rw [List.getElem?_eq_none (by simp [hl, hb]; omega), List.getElem?_eq_none (by rw [hcells_len]; omega)]

theorem run_copy_hs (g a0 r m c k : Nat) (ad : Addr) (w : World) (s1 : Hs) (hS : HsAt w g s1) (l : List Nat) (hl : l.length = m) (hk : k = Nat.min m r) (hc : ∀ j, j < l.length → w.cell? (ad.add j) = some (.int .u8 (gt l j : Nat))) (hfit : a0 + r ≤ 64) :
    ∃ w', (Builtin.copy_ #[22, 22] 3 #[.slice (some ⟨g, 8 + a0, none⟩) r r, .slice (some ad) m c]).run Tryd.prog w = .ok (.int .i64 ((k : Nat) : Int)) w' ∧ HsAt w' g ⟨s1.st, over s1.buf a0 (l.take k), s1.n⟩ ∧ w.grownBy w' (some g) := by
  have hkm : k ≤ m := by rw [hk]; exact Nat.min_le_left _ _
  have hkr : k ≤ r := by rw [hk]; exact Nat.min_le_right _ _
  have hlen : (bcells (l.take k)).length = k := by rw [bcells_len, List.length_take]; omega
  have hrun := run_copy_row (P := Tryd.prog) w 22 22 3 5 g (8 + a0) r r ad m c _ 60 (bcells (l.take k)) Tryd.underlying22 (by kernel_rfl) hS.heap (by rw [hlen]; exact hk) (fun j v hv => by
    have hj : j < k := by
      rcases Nat.lt_or_ge j k with h | h
      · exact h
      · rw [List.getElem?_eq_none (by omega)] at hv; cases hv
    rw [bcells_at _ _ (by rw [List.length_take]; omega), gt_take _ _ _ hj] at hv
    rw [hc j (by omega), ← hv]) (by rw [hlen]; simp [hcells_len]; omega) (bcells_one _)
  have e : (hcells s1).toArray.toList = hcells s1 := rfl
  rw [e, List.append_assoc, splice_cells s1 a0 (l.take k) (by rw [List.length_take]; omega), hlen] at hrun
  exact ⟨_, hrun, HsAt.of_heap (setRow_heap w g _ _ 60 _ hS.heap), only_setRow (World.grownBy.refl _ _) (.inl rfl) _⟩

theorem take_lt {l : List Nat} (h : ∀ j, gt l j < 256) (k : Nat) : ∀ j, gt (l.take k) j < 256 := by
  intro j
  by_cases hj : j < k
  · rw [gt_take _ _ _ hj]; exact h j
  · rw [gt_ge _ _ (by rw [List.length_take]; omega)]; omega
theorem step_part (st buf l : List Nat) (sn a k : Nat) (hb : buf.length = 64) (ha : a = sn % 64) (hk0 : 0 < k) (hkl : k ≤ l.length) (hle : a + k ≤ 64) :
    takeAll ⟨st, buf, sn⟩ l = takeAll (if a + k = 64 then ⟨change st (over buf a (l.take k)), over buf a (l.take k), sn + k⟩ else ⟨st, over buf a (l.take k), sn + k⟩) (l.drop k) := by
  have hl : (l.take k).length = k := by rw [List.length_take]; omega
  have e : takeAll ⟨st, buf, sn⟩ l = takeAll (takeAll ⟨st, buf, sn⟩ (l.take k)) (l.drop k) := by rw [← takeAll_append, List.take_append_drop]
  rw [e, take_fit (l.take k) ⟨st, buf, sn⟩ hb (by intro h; rw [h] at hl; simp at hl; omega) (by rw [hl]; dsimp only; omega)]
  simp only [hl, ← ha]
theorem good_over {st buf l : List Nat} {sn : Nat} (h : Good ⟨st, buf, sn⟩) (hl : ∀ j, gt l j < 256) (a k m : Nat) : Good ⟨st, over buf a (l.take k), m⟩ :=
  ⟨h.st, ok_over h.buf a (take_lt hl k)⟩
theorem min_pick (m r : Nat) (hm : 0 < m) (hr : 0 < r) : ∃ k : Nat, k = Nat.min m r ∧ k ≤ m ∧ k ≤ r ∧ 0 < k ∧ (k < r → m ≤ k) := by
  have h : Nat.min m r = min m r := rfl
  exact ⟨min m r, h.symm, by omega, by omega, by omega, by omega⟩
theorem slice_buf (g a r : Nat) (h : a + r = 64) (hr : 0 < r) (w : World) : (Instr.sliceAt 34 (.pointer (some ⟨g, 8, none⟩)) (some (.int .i64 (a : Int))) none none).run Tryd.prog w = .ok (.slice (some ⟨g, 8 + a, none⟩) r r) w := by
  have h1 : Tryd.prog.underlying 34 = some (.array (Tryd.prog.arrayLen 34) (Tryd.prog.elem 34)) := by kernel_rfl
  have h2 : Tryd.prog.arrayLen 34 = 64 := by kernel_rfl
  have h3 : Tryd.prog.elem 34 = 5 := by kernel_rfl
  rw [run_sliceAt_array_l w 34 _ h1 .i64 (a : Int) (by omega) (by rw [h2]; omega), h2, h3]
  have h4 : (Tryd.prog.info? 5).map (·.size) = some 1 := by kernel_rfl
  cases hq : Tryd.prog.info? 5 with
  | none => simp [hq] at h4
  | some i =>
    have hs1 : i.size = 1 := by simpa [hq] using h4
    have e1 : ((⟨g, 8, none⟩ : Addr).add a) = ⟨g, 8 + a, none⟩ := by unfold Addr.add; split <;> simp_all
    have e2 : 64 - a = r := by omega
    simp [sizeOf, typeInfo, hq, hs1, slicedAt, e1, e2]
    omega
theorem slice_tail (ad : Addr) (m c k r c2 : Nat) (h : k + r = m) (hmc : m ≤ c) (hc2 : k + c2 = c) :
    ∃ A2 : Option Addr, (k < m → A2 = some (ad.add k)) ∧ ∀ w, (Instr.slice 22 (.slice (some ad) m c) (some (.int .i64 (k : Int))) none none).run Tryd.prog w = .ok (.slice A2 r c2) w := by
  have h1 : Tryd.prog.underlying 22 = some (.slice (Tryd.prog.elem 22)) := by kernel_rfl
  have h3 : Tryd.prog.elem 22 = 5 := by kernel_rfl
  have h4 : (Tryd.prog.info? 5).map (·.size) = some 1 := by kernel_rfl
  cases hq : Tryd.prog.info? 5 with
  | none => simp [hq] at h4
  | some i =>
    have hs1 : i.size = 1 := by simpa [hq] using h4
    refine ⟨if c = k then some ad else some (ad.add k), fun hk => by rw [if_neg (by omega)], fun w => ?_⟩
    rw [run_slice_l (a := some ad) (len := m) (cap := c) (w := w) (t := 22) (ht := h1) .i64 (k : Int) (by omega) (by omega), h3]
    have e1 : m - k = r := by omega
    have e2 : c - k = c2 := by omega
    simp [sizeOf, typeInfo, hq, hs1, sliced, e1, e2]
    try (split <;> rfl)

set_option maxHeartbeats 1000000 in
set_option maxRecDepth 100000 in
theorem write_any (g : Nat) (s : Hs) (A : Option Addr) (bs : List Nat) (n c : Nat) (w : World) (hS : HsAt w g s) (hG : Good s) (hT : Tables w) (hg : 2 ≤ g)
    (hR : Rn w g A bs) (hn : bs.length = n) (hnc : n ≤ c) (hc : c ≤ 9223372036854775807) (hm : s.n + n ≤ 1152921504606846976) :
    Calls Tryd.prog 35 #[.pointer (some ⟨g, 0, none⟩), .slice A n c] w fun e' w' => e' = .returned (.tuple #[]) ∧ HsAt w' g (takeAll s bs) ∧ w.grownBy w' (some g) := by
  have hlt : g < w.heap.size := hS.lt
  have HS := Lib.hid hS; have HG := Lib.hid hG; have HT := Lib.hid hT; have HR := Lib.hid hR; have HN := Lib.hid (fun _ : Unit => hn); clear hS hG hT hR hn
  generalize hfin : takeAll s bs = fin
  have HF := Lib.hid (fun _ : Unit => hfin); clear hfin
  go_enter Tryd.func35, Tryd.ntmps35
  go_wp2
  go_loopw [1] (fun v W => ∃ (A1 : Option Addr) (l : List Nat) (m c1 : Nat) (s1 : Hs), v = .slice A1 m c1 ∧ m ≤ c1 ∧ c1 ≤ 9223372036854775807 ∧ s1.n + m ≤ 1152921504606846976 ∧ Hid (Unit → l.length = m) ∧ Hid (Unit → takeAll s1 l = fin) ∧ Hid (Rn W g A1 l) ∧ Hid (HsAt W g s1) ∧ Hid (Good s1) ∧ Hid (w.grownBy W (some g))) (fun v _ => match v with | .slice _ m _ => m | _ => 0)
  case atStart => exact ⟨A, bs, n, c, s, rfl, hnc, hc, hm, HN, HF, HR, HS, HG, Lib.hid (World.grownBy.refl _ _)⟩
  case round =>
    obtain ⟨A1, l, m, c1, s1, rfl, hmc, hc1, hsm, HN1, HF1, HR1, HS1, HG1, HW1⟩ := hrel
    by_cases h0 : m = 0
    · subst h0
      go_wp2
      go_end0
      have e : l = [] := List.eq_nil_of_length_eq_zero (HN1.out ())
      have e2 := HF1.out ()
      rw [e] at e2
      exact ⟨rfl, by rw [← e2]; exact HS1.out, HW1.out⟩
    · obtain ⟨ad, rfl, hadg, hadw, hcells⟩ := HR1.out.2 (by rw [HN1.out ()]; omega)
      have HC := Lib.hid hcells; clear hcells
      obtain ⟨st, buf, sn⟩ := s1
      dsimp only at hsm
      obtain ⟨a, ha, ha64⟩ : ∃ a : Nat, a = sn % 64 ∧ a < 64 := ⟨sn % 64, rfl, by omega⟩
      have c0 := HS1.out.len
      dsimp only at c0
      have hmod : ((sn : Int) % 64) = (a : Int) := by omega
      have hwr : IntKind.i64.wrap ((a : Int)) = (a : Int) := by rw [IntKind.wrap_i64]; omega
      have ya : (a : Int) < 64 := by omega
      have y1 : (0 : Int) < (m : Int) := by omega
      obtain ⟨r, har, har', hr0⟩ : ∃ r : Nat, a + r ≤ 64 ∧ 64 ≤ a + r ∧ 0 < r := ⟨64 - a, by omega, by omega, by omega⟩
      obtain ⟨k, hk, hkm, hkr, hk0, hkk⟩ := min_pick m r (by omega) hr0
      obtain ⟨r2, hr2, hr2'⟩ : ∃ r2 : Nat, k + r2 ≤ m ∧ m ≤ k + r2 := ⟨m - k, by omega, by omega⟩
      obtain ⟨c2, hc2, hc2'⟩ : ∃ c2 : Nat, k + c2 ≤ c1 ∧ c1 ≤ k + c2 := ⟨c1 - k, by omega, by omega⟩
      obtain ⟨A2, hA2, hst⟩ := slice_tail ad m c1 k r2 c2 (by omega) hmc (by omega)
      have hsb := slice_buf g a r (by omega) hr0
      have HA := Lib.hid (fun _ : Unit => ha); have HK := Lib.hid (fun _ : Unit => hk); have HA2 := Lib.hid hA2; clear ha hk hA2
      obtain ⟨W1, hrun, hS2, hG2⟩ := run_copy_hs g a r m c1 k ad wr ⟨st, buf, sn⟩ HS1.out l (HN1.out ()) (HK.out ()) HC.out har
      dsimp only at hS2
      have c3 := hS2.len
      have f3 := hS2.frozen 72
      dsimp only at c3
      have HS2 := Lib.hid hS2; have HW2 := Lib.hid (only_then HW1.out hG2 (.inl rfl)); have HR2 := Lib.hid (HR1.out.grown hG2); clear hS2 hG2
      have hwk : IntKind.u64.wrap ((k : Int)) = (k : Int) := by rw [IntKind.wrap_u64]; omega
      have hwl : IntKind.u64.wrap ((sn : Int) + (k : Int)) = ((sn + k : Nat) : Int) := by rw [IntKind.wrap_u64]; omega
      have hwl2 : ((sn : Int) + (k : Int)) % 18446744073709551616 = ((sn + k : Nat) : Int) := by omega
      by_cases hfull : a + k = 64
      · have hd : ((a : Int) + (k : Int) == 64) = true := by rw [beq_iff_eq]; omega
        have HH := Lib.hid (fun _ : Unit => hfull); clear hfull
        go_wp2
        have HS3 : Hid (HsAt (W1.setCell ⟨g, 72, none⟩ (.int .u64 ((sn : Int) + (k : Int)))) g ⟨st, over buf a (l.take k), sn + k⟩) := Lib.hid (HS2.out.setLen (sn + k))
        have HW3 := Lib.hid (only_set HW2.out (p := ⟨g, 72, none⟩) (.inl rfl) (.int .u64 ((sn : Int) + (k : Int))))
        have HR3 := Lib.hid (HR2.out.grown (only_set (World.grownBy.refl W1 (some g)) (p := ⟨g, 72, none⟩) (.inl rfl) (.int .u64 ((sn : Int) + (k : Int)))))
        generalize W1.setCell ⟨g, 72, none⟩ (.int .u64 ((sn : Int) + (k : Int))) = W2 at *
        have HGo := Lib.hid (good_over HG1.out HR1.out.1 a k (sn + k))
        have HST := Lib.hid (fun _ : Unit => (step_part st buf l sn a k HG1.out.buf.1 (HA.out ()) hk0 (by rw [HN1.out ()]; exact hkm) (by omega)).symm.trans (HF1.out ()))
        refine wp_region_still_tail 6 (by kernel_rfl) (by kernel_rfl) ?_
        simp only [List.take_succ_cons, List.take_zero, List.drop_succ_cons, List.drop_zero]
        repeat still_step
        refine wpStill_nil ?_
        change wpList _ _ _ _ _ W2.drew
        replace HS3 := Lib.hid HS3.out.drew
        replace HW3 := Lib.hid (only_drew HW3.out)
        replace HR3 := Lib.hid (HR3.out.grown (only_drew (World.grownBy.refl W2 (some g))))
        generalize W2.drew = W3 at *
        go_wp2_with fail
        refine (change_any g _ _ HS3.out HGo.out (HT.out.grown HW3.out hg) hg).mono ?_
        rintro e' W4 ⟨rfl, hS4, hG4⟩
        dsimp only at hS4
        have HS4 := Lib.hid hS4; have HW4 := Lib.hid (only_then HW3.out hG4 (.inl rfl)); have HR4 := Lib.hid (HR3.out.grown hG4); clear hS4 hG4
        go_wp2
        go_roundw
        case rel =>
          refine ⟨A2, l.drop k, r2, c2, ⟨change st (over buf a (l.take k)), over buf a (l.take k), sn + k⟩, rfl, by omega, by omega, by dsimp only; omega, Lib.hid fun _ => by rw [List.length_drop, HN1.out ()]; omega, Lib.hid fun _ => ?_, Lib.hid (HR4.out.drop k fun h => HA2.out (by rw [HN1.out ()] at h; exact h)), HS4, Lib.hid ⟨ok_change HG1.out.st, HGo.out.buf⟩, HW4⟩
          have := HST.out ()
          rwa [if_pos (HH.out ())] at this
        case measure => show r2 < m; omega
      · have hd : ((a : Int) + (k : Int) == 64) = false := by rw [beq_eq_false_iff_ne]; omega
        have HH := Lib.hid (fun _ : Unit => hfull); clear hfull
        go_wp2
        have HS3 : Hid (HsAt (W1.setCell ⟨g, 72, none⟩ (.int .u64 ((sn : Int) + (k : Int)))) g ⟨st, over buf a (l.take k), sn + k⟩) := Lib.hid (HS2.out.setLen (sn + k))
        have HW3 := Lib.hid (only_set HW2.out (p := ⟨g, 72, none⟩) (.inl rfl) (.int .u64 ((sn : Int) + (k : Int))))
        have HR3 := Lib.hid (HR2.out.grown (only_set (World.grownBy.refl W1 (some g)) (p := ⟨g, 72, none⟩) (.inl rfl) (.int .u64 ((sn : Int) + (k : Int)))))
        have HGo := Lib.hid (good_over HG1.out HR1.out.1 a k (sn + k))
        have HST := Lib.hid (fun _ : Unit => (step_part st buf l sn a k HG1.out.buf.1 (HA.out ()) hk0 (by rw [HN1.out ()]; exact hkm) (by omega)).symm.trans (HF1.out ()))
        go_roundw
        case rel =>
          refine ⟨A2, l.drop k, r2, c2, ⟨st, over buf a (l.take k), sn + k⟩, rfl, by omega, by omega, by dsimp only; omega, Lib.hid fun _ => by rw [List.length_drop, HN1.out ()]; omega, Lib.hid fun _ => ?_, Lib.hid (HR3.out.drop k fun h => HA2.out (by rw [HN1.out ()] at h; exact h)), HS3, HGo, HW3⟩
          have := HST.out ()
          rwa [if_neg (HH.out ())] at this
        case measure => show r2 < m; omega
end Go.Proofs.YtfcnhendebjjeaaDoor.Sha
