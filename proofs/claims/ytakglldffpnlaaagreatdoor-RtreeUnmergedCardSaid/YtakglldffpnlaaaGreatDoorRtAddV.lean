/- Plain: the tree with a leaf more is right; its leaves. -/
import Derived.Test.YtakglldffpnlaaaGreatDoorRtM4
namespace Go.Proofs.YtakglldffpnlaaaGreatDoor.Rt
set_option linter.all false

theorem upUn_nd (f : Nat) (ns : List Nd) (l p : Nat) (hin : idx l p < ns.length) : ∀ k, nd (upUn f ns k) (idx l p) = if 1 ≤ l ∧ l ≤ k ∧ p = f / 2 ^ l ∧ (nd ns (idx l p)).kind ≠ 0 then withU (nd ns (idx l p)) f else nd ns (idx l p)
  | 0 => by rw [if_neg (by omega)]; rfl
  | k + 1 => by
    have ih := upUn_nd f ns l p hin k
    unfold upUn
    dsimp only
    by_cases e : l = k + 1 ∧ p = f / 2 ^ (k + 1)
    · obtain ⟨rfl, rfl⟩ := e
      rw [if_neg (by omega)] at ih
      rw [ih]
      by_cases hk : (nd ns (idx (k + 1) (f / 2 ^ (k + 1)))).kind = 0
      · rw [if_pos hk, if_neg (fun h => h.2.2.2 hk), ih]
      · rw [if_neg hk, if_pos ⟨by omega, Nat.le_refl _, rfl, hk⟩, nd_set _ _ _ _ (by rw [upUn_len]; exact hin), if_pos rfl]
    · have ne : idx l p ≠ idx (k + 1) (f / 2 ^ (k + 1)) := fun h => e (idx_inj h)
      have hc : (1 ≤ l ∧ l ≤ k + 1 ∧ p = f / 2 ^ l ∧ (nd ns (idx l p)).kind ≠ 0) ↔ (1 ≤ l ∧ l ≤ k ∧ p = f / 2 ^ l ∧ (nd ns (idx l p)).kind ≠ 0) := by
        constructor
        · rintro ⟨h1, h2, h3, h4⟩
          refine ⟨h1, ?_, h3, h4⟩
          rcases Nat.lt_or_ge l (k + 1) with h | h
          · omega
          · obtain rfl : l = k + 1 := by omega
            exact absurd ⟨rfl, h3⟩ e
        · rintro ⟨h1, h2, h3, h4⟩; exact ⟨h1, by omega, h3, h4⟩
      simp only [hc]
      rw [← ih]
      split
      · rfl
      · rcases Nat.lt_or_ge (idx (k + 1) (f / 2 ^ (k + 1))) (upUn f ns k).length with h | h
        · rw [nd_set _ _ _ _ h, if_neg ne]
        · rw [List.set_eq_of_length_le h]
theorem mem_ins {x j : Int} : ∀ {l : List Int}, x ∈ ins j l ↔ x = j ∨ x ∈ l
  | [] => by simp [ins]
  | y :: l => by
    unfold ins
    split
    · rw [List.mem_cons, mem_ins, List.mem_cons]
      constructor
      · rintro (h | h | h) <;> simp [h]
      · rintro (h | h | h) <;> simp [h]
    · simp
theorem rise_ins {j : Int} : ∀ {l : List Int} {a : Int}, Rise a l → a < j → ¬ j ∈ l → Rise a (ins j l)
  | [], a, _, h, _ => ⟨h, trivial⟩
  | y :: l, a, h, hj, hn => by
    unfold ins
    split
    · rename_i hy
      exact ⟨h.1, rise_ins h.2 hy fun hm => hn (List.mem_cons_of_mem _ hm)⟩
    · rename_i hy
      have : j ≠ y := fun e => hn (by rw [e]; exact List.mem_cons_self ..)
      exact ⟨hj, by omega, h.2⟩
/-- a spot that is in the list of nodes is one of the tree's -/
theorem spot_in {d l p : Nat} (h : idx l p < 2 ^ (d + 1) - 1) : l ≤ d ∧ p < 2 ^ (d - l) := by
  obtain ⟨l', p', h1, h2, h3⟩ := idx_any d _ h
  obtain ⟨rfl, rfl⟩ := idx_inj h3
  exact ⟨h1, h2⟩
theorem pow_up {d e : Nat} (h : d ≤ e) : 2 ^ (d + 1) - 1 ≤ 2 ^ (e + 1) - 1 := by
  have : 2 ^ (d + 1) ≤ 2 ^ (e + 1) := Nat.pow_le_pow_right (by decide) (by omega)
  omega
theorem addBase_len {ns : List Nd} {d : Nat} (h : Right ns d) (leaf : Nd) : ((grow ns (addD ns d)).set (2 * firstB ns d) leaf).length = 2 ^ (addD ns d + 1) - 1 := by
  have h1 := h.len
  have h2 := pow_up (addD_le (ns := ns) (d := d)).1
  rw [List.length_set, grow_len _ _ (by omega)]
theorem addF_len {ns : List Nd} {d : Nat} (h : Right ns d) (leaf : Nd) : (addF ns d leaf).length = 2 ^ (addD ns d + 1) - 1 := by unfold addF; rw [upUn_len, addBase_len h]
theorem first_in {ns : List Nd} {d : Nat} : 2 * firstB ns d < 2 ^ (addD ns d + 1) - 1 := by
  have := (addD_le (ns := ns) (d := d)).2.2
  have e : 2 ^ (addD ns d + 1) = 2 * 2 ^ addD ns d := by rw [Nat.pow_succ]; omega
  omega
theorem base_nd {ns : List Nd} {d : Nat} (h : Right ns d) (leaf : Nd) (i : Nat) : nd ((grow ns (addD ns d)).set (2 * firstB ns d) leaf) i = if i = 2 * firstB ns d then leaf else nd ns i := by
  have h1 := h.len
  have h2 := pow_up (addD_le (ns := ns) (d := d)).1
  rw [nd_set _ _ _ _ (by rw [grow_len _ _ (by omega)]; exact first_in), nd_grow]
theorem addF_leaf {ns : List Nd} {d : Nat} (h : Right ns d) (leaf : Nd) (j : Nat) (hj : j < 2 ^ addD ns d) : nd (addF ns d leaf) (2 * j) = if j = firstB ns d then leaf else nd ns (2 * j) := by
  have hin : idx 0 j < ((grow ns (addD ns d)).set (2 * firstB ns d) leaf).length := by rw [addBase_len h]; exact idx_lt (by omega) (by rw [Nat.sub_zero]; exact hj)
  have := upUn_nd (firstB ns d) _ 0 j hin (addD ns d)
  rw [if_neg (by omega), idx_zero, base_nd h] at this
  unfold addF
  rw [this]
  by_cases e : j = firstB ns d
  · rw [if_pos (by omega), if_pos e]
  · rw [if_neg (by omega), if_neg e]
theorem addF_node {ns : List Nd} {d : Nat} (h : Right ns d) (leaf : Nd) (l p : Nat) (hl : l + 1 ≤ addD ns d) (hp : p < 2 ^ (addD ns d - (l + 1))) :
    nd (addF ns d leaf) (idx (l + 1) p) = if p = firstB ns d / 2 ^ (l + 1) ∧ (nd ns (idx (l + 1) p)).kind ≠ 0 then withU (nd ns (idx (l + 1) p)) (firstB ns d) else nd ns (idx (l + 1) p) := by
  have hin : idx (l + 1) p < ((grow ns (addD ns d)).set (2 * firstB ns d) leaf).length := by rw [addBase_len h]; exact idx_lt hl hp
  have := upUn_nd (firstB ns d) _ (l + 1) p hin (addD ns d)
  rw [base_nd h, if_neg (odd_ne l p _)] at this
  unfold addF
  rw [this]
  by_cases e : p = firstB ns d / 2 ^ (l + 1) ∧ (nd ns (idx (l + 1) p)).kind ≠ 0
  · rw [if_pos ⟨by omega, hl, e⟩, if_pos e]
  · rw [if_neg (fun h => e h.2.2), if_neg e]
theorem add_there {ns : List Nd} {d : Nat} (h : Right ns d) {leaf : Nd} (hf : LeafR leaf) {j : Int} (hj : There ns d j) : There (addF ns d leaf) (addD ns d) j := by
  obtain ⟨h0, h1, h2⟩ := hj
  obtain ⟨k, rfl⟩ := Int.eq_ofNat_of_zero_le h0
  rw [pow_eq] at h1
  have hk : k < 2 ^ addD ns d := Nat.lt_of_lt_of_le (by omega) (Nat.pow_le_pow_right (by decide) (addD_le (ns := ns) (d := d)).1)
  rw [Int.toNat_natCast] at h2
  refine ⟨h0, by rw [pow_eq]; omega, ?_⟩
  rw [Int.toNat_natCast, addF_leaf h leaf k hk]
  split
  · exact hf.nb
  · exact h2
theorem add_new {ns : List Nd} {d : Nat} (h : Right ns d) {leaf : Nd} (hf : LeafR leaf) : There (addF ns d leaf) (addD ns d) (firstB ns d : Nat) := by
  have := (addD_le (ns := ns) (d := d)).2.2
  refine ⟨by omega, by rw [pow_eq]; omega, ?_⟩
  rw [Int.toNat_natCast, addF_leaf h leaf _ this, if_pos rfl]
  exact hf.nb
theorem NdR.move {ns ms : List Nd} {d e l p : Nat} {n : Nd} (h : NdR ns d l p n) (ht : ∀ j, There ns d j → There ms e j) : NdR ms e l p n := by
  cases h with
  | bl e => exact .bl e
  | lf h0 h => exact .lf h0 h
  | nod h0 h u => exact .nod h0 h ⟨u.rise, fun j hj => ⟨(u.each j hj).1, ht j (u.each j hj).2⟩⟩
theorem NodeR.withU {n : Nd} (h : NodeR n) (j : Int) : NodeR (withU n j) := ⟨h.kind, h.ek, h.vk, h.nm, h.above⟩
theorem add_right {ns : List Nd} {d : Nat} (h : Right ns d) {leaf : Nd} (hf : LeafR leaf) (hD : addD ns d ≤ 6) : Right (addF ns d leaf) (addD ns d) := by
  refine ⟨hD, addF_len h leaf, fun l p hl hp => ?_⟩
  have ht : ∀ j, There ns d j → There (addF ns d leaf) (addD ns d) j := fun j => add_there h hf
  have old : NdR (addF ns d leaf) (addD ns d) l p (nd ns (idx l p)) := by
    rcases Nat.lt_or_ge (idx l p) ns.length with hi | hi
    · rw [h.len] at hi
      obtain ⟨h1, h2⟩ := spot_in hi
      exact (h.each l p h1 h2).move ht
    · rw [nd_ge _ _ hi]; exact .bl rfl
  cases l with
  | zero =>
    rw [idx_zero] at old ⊢
    rw [Nat.sub_zero] at hp
    rw [addF_leaf h leaf p hp]
    split
    · exact .lf rfl hf
    · exact old
  | succ l =>
    rw [addF_node h leaf l p hl hp]
    split
    · rename_i e
      obtain ⟨e1, e2⟩ := e
      obtain ⟨u1, u2, u3⟩ := h.un_free l p (firstB ns d) free_first e2
      cases old with
      | bl e => rw [e] at e2; exact absurd rfl e2
      | lf h0 _ => omega
      | nod h0 hn u =>
        refine .nod h0 (hn.withU _) ⟨rise_ins u1 (by omega) u2, fun j hj => ?_⟩
        rcases mem_ins.1 hj with rfl | hj
        · refine ⟨⟨by omega, ?_⟩, add_new h hf⟩
          rw [e1, pow_eq]; rfl
        · exact u.each j hj
    · exact old
/-! ### leaves -/
theorem leavesTo_congr {ns ms : List Nd} : ∀ k, (∀ j, j < k → ((nd ms (2 * j)).kind = 0 ↔ (nd ns (2 * j)).kind = 0)) → leavesTo ms k = leavesTo ns k
  | 0, _ => rfl
  | k + 1, h => by
    rw [leavesTo, leavesTo, leavesTo_congr k fun j hj => h j (by omega)]
    congr 1
    by_cases e : (nd ns (2 * k)).kind = 0
    · rw [if_pos e, if_pos ((h k (by omega)).2 e)]
    · rw [if_neg e, if_neg (fun x => e ((h k (by omega)).1 x))]
theorem leavesTo_more {ns : List Nd} {k : Nat} (h : ∀ j, k ≤ j → (nd ns (2 * j)).kind = 0) : ∀ m, leavesTo ns (k + m) = leavesTo ns k
  | 0 => rfl
  | m + 1 => by rw [← Nat.add_assoc, leavesTo, leavesTo_more h m, if_pos (h _ (by omega)), List.append_nil]
theorem leavesTo_one {ns ms : List Nd} {f : Nat} (h0 : (nd ns (2 * f)).kind = 0) (h1 : (nd ms (2 * f)).kind ≠ 0) (h2 : ∀ j, j ≠ f → ((nd ms (2 * j)).kind = 0 ↔ (nd ns (2 * j)).kind = 0)) : ∀ k, (leavesTo ms k).length = (leavesTo ns k).length + if f < k then 1 else 0
  | 0 => by simp [leavesTo]
  | k + 1 => by
    have ih := leavesTo_one h0 h1 h2 k
    rw [leavesTo, leavesTo, List.length_append, List.length_append, ih]
    rcases Nat.lt_trichotomy f k with hk | rfl | hk
    · have hk' : f < k + 1 := by omega
      by_cases e : (nd ns (2 * k)).kind = 0
      · have e' := (h2 k (by omega)).2 e
        simp [hk, hk', e, e']
      · have e' : ¬ (nd ms (2 * k)).kind = 0 := fun x => e ((h2 k (by omega)).1 x)
        simp [hk, hk', e, e']
    · have hk' : f < f + 1 := by omega
      simp [hk', h0, h1]
    · have hk' : ¬ f < k + 1 := by omega
      have hk2 : ¬ f < k := by omega
      by_cases e : (nd ns (2 * k)).kind = 0
      · have e' := (h2 k (by omega)).2 e
        simp [hk2, hk', e, e']
      · have e' : ¬ (nd ms (2 * k)).kind = 0 := fun x => e ((h2 k (by omega)).1 x)
        simp [hk2, hk', e, e']
theorem blank_behind {ns : List Nd} {d : Nat} (h : Right ns d) (j : Nat) (hj : 2 ^ d ≤ j) : (nd ns (2 * j)).kind = 0 := by
  rw [nd_ge _ _ (by rw [h.len, Nat.pow_succ]; omega)]; rfl
theorem leavesF_up {ns : List Nd} {d e : Nat} (h : Right ns d) (hd : d ≤ e) : leavesTo ns (2 ^ e) = leavesF ns d := by
  have hp : 2 ^ d ≤ 2 ^ e := Nat.pow_le_pow_right (by decide) hd
  rw [show 2 ^ e = 2 ^ d + (2 ^ e - 2 ^ d) by omega, leavesTo_more fun j hj => blank_behind h j hj]; rfl
theorem first_blank {ns : List Nd} {d : Nat} (h : Right ns d) : (nd ns (2 * firstB ns d)).kind = 0 := by
  obtain ⟨h1, _, h3⟩ := firstB_is ns d
  rcases Nat.lt_or_ge (firstB ns d) (2 ^ d) with h2 | h2
  · exact h3 h2
  · exact blank_behind h _ h2
theorem add_leaves {ns : List Nd} {d : Nat} (h : Right ns d) {leaf : Nd} (hf : LeafR leaf) : (leavesF (addF ns d leaf) (addD ns d)).length = (leavesF ns d).length + 1 := by
  have hl := addF_len h leaf
  have key : ∀ j, j ≠ firstB ns d → ((nd (addF ns d leaf) (2 * j)).kind = 0 ↔ (nd ns (2 * j)).kind = 0) := fun j hj => by
    rcases Nat.lt_or_ge j (2 ^ addD ns d) with h1 | h1
    · rw [addF_leaf h leaf j h1, if_neg hj]
    · have e : 2 ^ (addD ns d + 1) = 2 * 2 ^ addD ns d := by rw [Nat.pow_succ]; omega
      have hd : 2 ^ d ≤ 2 ^ addD ns d := Nat.pow_le_pow_right (by decide) (addD_le (ns := ns) (d := d)).1
      rw [nd_ge _ _ (by omega), blank_behind h j (by omega)]; simp [blank]
  have h2 := (addD_le (ns := ns) (d := d)).2.2
  have := leavesTo_one (first_blank h) (by rw [addF_leaf h leaf _ h2, if_pos rfl]; exact hf.nb) key (2 ^ addD ns d)
  rw [if_pos h2, leavesF_up h (addD_le (ns := ns) (d := d)).1] at this
  exact this
end Go.Proofs.YtakglldffpnlaaaGreatDoor.Rt
