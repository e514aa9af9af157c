/- Plain: a tree with another leaf in one's place, and without one, is right; its leaves. -/
import Derived.Test.YtakglldffpnlaaaGreatDoorRtAddV
namespace Go.Proofs.YtakglldffpnlaaaGreatDoor.Rt
set_option linter.all false

theorem upBl_nd (j : Nat) (ns : List Nd) (l p : Nat) (hin : idx l p < ns.length) : ∀ k, nd (upBl j ns k) (idx l p) = if 1 ≤ l ∧ l ≤ k ∧ p = j / 2 ^ l then blank else nd ns (idx l p)
  | 0 => by rw [if_neg (by omega)]; rfl
  | k + 1 => by
    have ih := upBl_nd j ns l p hin k
    unfold upBl
    by_cases e : l = k + 1 ∧ p = j / 2 ^ (k + 1)
    · obtain ⟨rfl, rfl⟩ := e
      rw [nd_set _ _ _ _ (by rw [upBl_len]; exact hin), if_pos rfl, if_pos ⟨by omega, Nat.le_refl _, rfl⟩]
    · have ne : idx l p ≠ idx (k + 1) (j / 2 ^ (k + 1)) := fun h => e (idx_inj h)
      have hc : (1 ≤ l ∧ l ≤ k + 1 ∧ p = j / 2 ^ l) ↔ (1 ≤ l ∧ l ≤ k ∧ p = j / 2 ^ l) := by
        constructor
        · rintro ⟨h1, h2, h3⟩
          refine ⟨h1, ?_, h3⟩
          rcases Nat.lt_or_ge l (k + 1) with h | h
          · omega
          · obtain rfl : l = k + 1 := by omega
            exact absurd ⟨rfl, h3⟩ e
        · rintro ⟨h1, h2, h3⟩; exact ⟨h1, by omega, h3⟩
      simp only [hc]
      rw [← ih]
      rcases Nat.lt_or_ge (idx (k + 1) (j / 2 ^ (k + 1))) (upBl j ns k).length with h | h
      · rw [nd_set _ _ _ _ h, if_neg ne]
      · rw [List.set_eq_of_length_le h]
/-- a tree with another node as a leaf, and blanks above -/
def renF (ns : List Nd) (d j : Nat) (n : Nd) : List Nd := upBl j (ns.set (2 * j) n) d
theorem renF_len (ns : List Nd) (d j : Nat) (n : Nd) : (renF ns d j n).length = ns.length := by unfold renF; rw [upBl_len, List.length_set]
theorem ren_leaf {ns : List Nd} {d : Nat} (h : Right ns d) (j : Nat) (n : Nd) (hj : j < 2 ^ d) (i : Nat) (hi : i < 2 ^ d) : nd (renF ns d j n) (2 * i) = if i = j then n else nd ns (2 * i) := by
  have e : 2 ^ (d + 1) = 2 * 2 ^ d := by rw [Nat.pow_succ]; omega
  have hin : idx 0 i < (ns.set (2 * j) n).length := by rw [List.length_set, h.len]; exact idx_lt (by omega) (by rw [Nat.sub_zero]; exact hi)
  have := upBl_nd j _ 0 i hin d
  rw [if_neg (by omega), idx_zero, nd_set _ _ _ _ (by rw [h.len]; omega)] at this
  unfold renF
  rw [this]
  by_cases x : i = j
  · rw [if_pos (by omega), if_pos x]
  · rw [if_neg (by omega), if_neg x]
theorem ren_node {ns : List Nd} {d : Nat} (h : Right ns d) (j : Nat) (n : Nd) (hj : j < 2 ^ d) (l p : Nat) (hl : l + 1 ≤ d) (hp : p < 2 ^ (d - (l + 1))) : nd (renF ns d j n) (idx (l + 1) p) = if p = j / 2 ^ (l + 1) then blank else nd ns (idx (l + 1) p) := by
  have e : 2 ^ (d + 1) = 2 * 2 ^ d := by rw [Nat.pow_succ]; omega
  have hin : idx (l + 1) p < (ns.set (2 * j) n).length := by rw [List.length_set, h.len]; exact idx_lt hl hp
  have := upBl_nd j _ (l + 1) p hin d
  rw [nd_set _ _ _ _ (by rw [h.len]; omega), if_neg (odd_ne l p j)] at this
  unfold renF
  rw [this]
  by_cases x : p = j / 2 ^ (l + 1)
  · rw [if_pos ⟨by omega, hl, x⟩, if_pos x]
  · rw [if_neg (fun h => x h.2.2), if_neg x]
theorem ren_right {ns : List Nd} {d : Nat} (h : Right ns d) {j : Nat} {n : Nd} (hj : j < 2 ^ d) (hn : n = blank ∨ LeafR n) : Right (renF ns d j n) d := by
  refine ⟨h.deep, by rw [renF_len, h.len], fun l p hl hp => ?_⟩
  have old := h.each l p hl hp
  cases l with
  | zero =>
    rw [Nat.sub_zero] at hp
    rw [idx_zero] at old ⊢
    rw [ren_leaf h j n hj p hp]
    split
    · rcases hn with hn | hn
      · exact .bl hn
      · exact .lf rfl hn
    · cases old with
      | bl e => exact .bl e
      | lf h0 k => exact .lf h0 k
      | nod h0 _ _ => omega
  | succ l =>
    rw [ren_node h j n hj l p hl hp]
    split
    · exact .bl rfl
    · rename_i hne
      cases old with
      | bl e => exact .bl e
      | lf h0 _ => omega
      | nod h0 k u =>
        refine .nod h0 k ⟨u.rise, fun x hx => ⟨(u.each x hx).1, ?_⟩⟩
        obtain ⟨⟨u1, u2⟩, t0, t1, t2⟩ := u.each x hx
        obtain ⟨y, rfl⟩ := Int.eq_ofNat_of_zero_le t0
        refine ⟨t0, t1, ?_⟩
        rw [pow_eq] at t1 u2
        rw [Int.toNat_natCast] at t2 ⊢
        rw [ren_leaf h j n hj y (by omega), if_neg]
        · exact t2
        · rintro rfl
          apply hne
          have : ((y / 2 ^ (l + 1) : Nat) : Int) = (p : Int) := by rw [← u2]; rfl
          omega
/-! ### the left half, as long as no leaf of the right one is there -/
def cutF : Nat → List Nd → Nat × List Nd
  | 0, ns => (0, ns)
  | d + 1, ns => if (ns.drop (2 ^ (d + 1))).any (fun n => n.kind == 1) then (d + 1, ns) else cutF d (ns.take (2 ^ (d + 1) - 1))
theorem nd_take (ns : List Nd) (k i : Nat) (h : i < k) : nd (ns.take k) i = nd ns i := by
  unfold nd
  rw [List.getD_eq_getElem?_getD, List.getD_eq_getElem?_getD, List.getElem?_take_of_lt h]
theorem half_right {ns : List Nd} {d : Nat} (h : Right ns (d + 1)) : Right (ns.take (2 ^ (d + 1) - 1)) d := by
  have e : 2 ^ (d + 1 + 1) = 2 * 2 ^ (d + 1) := by rw [Nat.pow_succ]; omega
  have e1 : 2 ^ (d + 1) = 2 * 2 ^ d := by rw [Nat.pow_succ]; omega
  refine ⟨by have := h.deep; omega, by rw [List.length_take, h.len]; omega, fun l p hl hp => ?_⟩
  have hp' : p < 2 ^ (d + 1 - l) := Nat.lt_of_lt_of_le hp (Nat.pow_le_pow_right (by decide) (by omega))
  have old := h.each l p (by omega) hp'
  rw [nd_take _ _ _ (idx_lt hl hp)]
  cases old with
  | bl e => exact .bl e
  | lf h0 k => exact .lf h0 k
  | nod h0 k u =>
    refine .nod h0 k ⟨u.rise, fun x hx => ⟨(u.each x hx).1, ?_⟩⟩
    obtain ⟨⟨u1, u2⟩, t0, t1, t2⟩ := u.each x hx
    obtain ⟨y, rfl⟩ := Int.eq_ofNat_of_zero_le t0
    rw [pow_eq] at u2
    have hy : y / 2 ^ l = p := by have : ((y / 2 ^ l : Nat) : Int) = (p : Int) := by { rw [← u2]; rfl }; omega
    have hlt : y < 2 ^ d := by
      have h3 : y < 2 ^ (d - l) * 2 ^ l := (Nat.div_lt_iff_lt_mul (Nat.two_pow_pos l)).1 (by rw [hy]; exact hp)
      rwa [← Nat.pow_add, show d - l + l = d by omega] at h3
    refine ⟨t0, by rw [pow_eq]; omega, ?_⟩
    rw [Int.toNat_natCast] at t2 ⊢
    rw [nd_take _ _ _ (by omega)]; exact t2
theorem none_right {ns : List Nd} {d : Nat} (h : Right ns (d + 1)) (hn : (ns.drop (2 ^ (d + 1))).any (fun n => n.kind == 1) = false) (j : Nat) (h1 : 2 ^ d ≤ j) (h2 : j < 2 ^ (d + 1)) : (nd ns (2 * j)).kind = 0 := by
  have e1 : 2 ^ (d + 1) = 2 * 2 ^ d := by rw [Nat.pow_succ]; omega
  have e : 2 ^ (d + 1 + 1) = 2 * 2 ^ (d + 1) := by rw [Nat.pow_succ]; omega
  have hh := h.each 0 j (by omega) (by rw [Nat.sub_zero]; exact h2)
  rw [idx_zero] at hh
  have hlt : 2 * j < ns.length := by rw [h.len]; omega
  have hm : nd ns (2 * j) ∈ ns.drop (2 ^ (d + 1)) := by
    rw [List.mem_iff_getElem?]
    refine ⟨2 * j - 2 ^ (d + 1), ?_⟩
    rw [List.getElem?_drop, show 2 ^ (d + 1) + (2 * j - 2 ^ (d + 1)) = 2 * j by omega]
    unfold nd
    rw [List.getD_eq_getElem?_getD, List.getElem?_eq_getElem hlt]; rfl
  rw [List.any_eq_false] at hn
  have hk := hn _ hm
  cases hh with
  | bl e => rw [e]; rfl
  | lf _ k => rw [k.kind] at hk; simp at hk
  | nod h0 _ _ => omega
theorem cut_right : ∀ {d : Nat} {ns : List Nd}, Right ns d → Right (cutF d ns).2 (cutF d ns).1
  | 0, ns, h => h
  | d + 1, ns, h => by
    unfold cutF
    split
    · exact h
    · exact cut_right (half_right h)
theorem cut_le : ∀ (d : Nat) (ns : List Nd), (cutF d ns).1 ≤ d
  | 0, ns => Nat.le_refl _
  | d + 1, ns => by
    unfold cutF
    split
    · exact Nat.le_refl _
    · have := cut_le d (ns.take (2 ^ (d + 1) - 1)); omega
theorem cut_len : ∀ (d : Nat) (ns : List Nd), (cutF d ns).2.length ≤ ns.length
  | 0, ns => Nat.le_refl _
  | d + 1, ns => by
    unfold cutF
    split
    · exact Nat.le_refl _
    · have := cut_len d (ns.take (2 ^ (d + 1) - 1)); rw [List.length_take] at this; omega
theorem cut_nd : ∀ (d : Nat) (ns : List Nd) (i : Nat), i < (cutF d ns).2.length → nd (cutF d ns).2 i = nd ns i
  | 0, ns, i, _ => rfl
  | d + 1, ns, i, h => by
    unfold cutF at h ⊢
    split
    · rfl
    · rename_i hn
      rw [if_neg hn] at h
      have h2 := cut_len d (ns.take (2 ^ (d + 1) - 1))
      rw [List.length_take] at h2
      rw [cut_nd d _ i h, nd_take _ _ _ (by omega)]
theorem cut_leaves : ∀ {d : Nat} {ns : List Nd}, Right ns d → leavesF (cutF d ns).2 (cutF d ns).1 = leavesF ns d
  | 0, ns, h => rfl
  | d + 1, ns, h => by
    unfold cutF
    split
    · rfl
    · rename_i hn
      rw [cut_leaves (half_right h)]
      have e1 : 2 ^ (d + 1) = 2 * 2 ^ d := by rw [Nat.pow_succ]; omega
      have z : ∀ m, m ≤ 2 ^ d → leavesTo ns (2 ^ d + m) = leavesTo ns (2 ^ d) := by
        intro m
        induction m with
        | zero => intro _; rfl
        | succ m ih =>
          intro hm
          rw [← Nat.add_assoc, leavesTo, ih (by omega), if_pos (none_right h (by simpa using hn) (2 ^ d + m) (by omega) (by omega)), List.append_nil]
      unfold leavesF
      rw [show leavesTo ns (2 ^ (d + 1)) = leavesTo ns (2 ^ d) by rw [e1, show 2 * 2 ^ d = 2 ^ d + 2 ^ d by omega]; exact z _ (Nat.le_refl _)]
      exact leavesTo_congr _ fun j hj => by rw [nd_take _ _ _ (by omega)]
end Go.Proofs.YtakglldffpnlaaaGreatDoor.Rt
