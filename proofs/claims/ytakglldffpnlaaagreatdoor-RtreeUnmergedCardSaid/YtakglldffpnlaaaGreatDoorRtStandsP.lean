/- Plain: what stands for a spot stands over just the leaves below it that are there, each once. -/
import Derived.Test.YtakglldffpnlaaaGreatDoorRtPlain
namespace Go.Proofs.YtakglldffpnlaaaGreatDoor.Rt
set_option linter.all false

/-- the node of a number knows a leaf: it is over it, and does not have it Unmerged -/
def Knows (ns : List Nd) (i a : Int) : Prop := ∃ l p : Nat, a = idx l p ∧ Under l p i ∧ ¬ i ∈ (nd ns (idx l p)).un
noncomputable def kn (ns : List Nd) (i a : Int) : Bool := @decide (Knows ns i a) (Classical.propDecidable _)
theorem kn_true {ns : List Nd} {i a : Int} : kn ns i a = true ↔ Knows ns i a := by unfold kn; simp
theorem knows_idx {ns : List Nd} {i : Int} {l p : Nat} : Knows ns i (idx l p) ↔ Under l p i ∧ ¬ i ∈ (nd ns (idx l p)).un := by
  constructor
  · rintro ⟨m, q, e, h⟩
    obtain ⟨rfl, rfl⟩ := idx_inj (Int.ofNat.inj e)
    exact h
  · intro h; exact ⟨l, p, rfl, h⟩
theorem under_zero {p : Nat} {i : Int} : Under 0 p i ↔ i = p := by
  unfold Under
  constructor
  · rintro ⟨h1, h2⟩; simpa using h2
  · rintro rfl; exact ⟨by omega, by simp⟩
theorem under_half {l p : Nat} {i : Int} : Under (l + 1) p i ↔ (Under l (2 * p) i ∨ Under l (2 * p + 1) i) := by
  unfold Under
  have e : i / 2 ^ (l + 1) = i / 2 ^ l / 2 := by rw [Int.pow_succ, Int.ediv_ediv_of_nonneg (by exact Int.le_of_lt (Int.pow_pos (by omega)))]
  rw [e]
  generalize i / 2 ^ l = y
  constructor
  · rintro ⟨h1, h2⟩; omega
  · rintro (⟨h1, h2⟩ | ⟨h1, h2⟩) <;> omega
theorem under_apart {l p : Nat} {i : Int} (h : Under l (2 * p) i) : ¬ Under l (2 * p + 1) i := by
  rintro ⟨_, h2⟩
  have := h.2
  omega
theorem rise_gt : ∀ {a : Int} {l : List Int}, Rise a l → ∀ x ∈ l, a < x
  | a, y :: l, h, x, hx => by
    rcases List.mem_cons.1 hx with rfl | hx
    · exact h.1
    · have := rise_gt h.2 x hx
      have := h.1
      omega
theorem knows_leaf {ns : List Nd} {d : Nat} (h : Right ns d) {j i : Int} (hj : There ns d j) : Knows ns i (2 * j) ↔ i = j := by
  obtain ⟨k, rfl⟩ := Int.eq_ofNat_of_zero_le hj.1
  have e : (2 * (k : Int)) = ((idx 0 k : Nat) : Int) := by rw [idx_zero]; omega
  rw [e, knows_idx, under_zero, idx_zero]
  have hu := (h.there hj).un
  rw [Int.toNat_natCast] at hu
  rw [hu]
  simp
theorem count_un {ns : List Nd} {d : Nat} (h : Right ns d) (i : Int) : ∀ (un : List Int) (a : Int), Rise a un → (∀ j ∈ un, There ns d j) →
    ((i ∈ un → (un.map (2 * ·)).countP (kn ns i) = 1) ∧ (¬ i ∈ un → (un.map (2 * ·)).countP (kn ns i) = 0))
  | [], _, _, _ => by simp
  | j :: un, a, hr, ht => by
    obtain ⟨ih1, ih2⟩ := count_un h i un j hr.2 fun x hx => ht x (List.mem_cons_of_mem _ hx)
    have hk := knows_leaf h (i := i) (ht j (List.mem_cons_self ..))
    rw [List.map_cons, List.countP_cons]
    by_cases e : i = j
    · subst e
      have hn : ¬ i ∈ un := fun hi => by have := rise_gt hr.2 i hi; omega
      rw [ih2 hn, if_pos (kn_true.2 (hk.2 rfl))]
      simp
    · rw [if_neg (fun k => e (hk.1 (kn_true.1 k)))]
      constructor
      · intro hi
        rcases List.mem_cons.1 hi with rfl | hi
        · exact absurd rfl e
        · rw [ih1 hi]
      · intro hi
        rw [ih2 fun k => hi (List.mem_cons_of_mem _ k)]
theorem count_known {ns : List Nd} {d l p : Nat} (h : Right ns d) (hl : l ≤ d) (hp : p < 2 ^ (d - l)) (hk : ¬ (nd ns (idx l p)).kind = 0) (i : Int) :
    ((Under l p i → (knownF (idx l p) (nd ns (idx l p))).countP (kn ns i) = 1) ∧ (¬ Under l p i → (knownF (idx l p) (nd ns (idx l p))).countP (kn ns i) = 0)) := by
  have hu : UnR ns d l p (nd ns (idx l p)).un := by
    have hh := h.each l p hl hp
    revert hk hh
    generalize nd ns (idx l p) = n
    intro hk hh
    cases hh with
    | bl e => rw [e] at hk; exact absurd rfl hk
    | lf _ k => exact ⟨by rw [k.un]; trivial, by rw [k.un]; intro j hj; cases hj⟩
    | nod _ _ k => exact k
  obtain ⟨c1, c2⟩ := count_un h i _ _ hu.rise fun j hj => (hu.each j hj).2
  have hki := knows_idx (ns := ns) (i := i) (l := l) (p := p)
  unfold knownF
  rw [List.countP_cons]
  constructor
  · intro hun
    by_cases hm : i ∈ (nd ns (idx l p)).un
    · rw [c1 hm, if_neg fun k => (hki.1 (kn_true.1 k)).2 hm]
    · rw [c2 hm, if_pos (kn_true.2 (hki.2 ⟨hun, hm⟩))]
  · intro hun
    rw [c2 fun hm => hun (hu.each i hm).1, if_neg fun k => hun (hki.1 (kn_true.1 k)).1]
theorem half_lt {d l p : Nat} (hl : l + 1 ≤ d) (hp : p < 2 ^ (d - (l + 1))) : 2 * p < 2 ^ (d - l) ∧ 2 * p + 1 < 2 ^ (d - l) := by
  have : 2 ^ (d - l) = 2 * 2 ^ (d - (l + 1)) := by rw [show d - l = (d - (l + 1)) + 1 by omega, Nat.pow_succ]; omega
  omega
/-- what stands for a spot: each leaf that is there is stood over once, if it is below the spot, and never, if not -/
theorem count_res {ns : List Nd} {d : Nat} (h : Right ns d) (i : Int) (hi : There ns d i) : ∀ (l p : Nat), l ≤ d → p < 2 ^ (d - l) →
    ((Under l p i → (resF ns l p).countP (kn ns i) = 1) ∧ (¬ Under l p i → (resF ns l p).countP (kn ns i) = 0))
  | 0, p, hl, hp => by
    by_cases hk : (nd ns (idx 0 p)).kind = 0
    · rw [resF, if_pos hk]
      refine ⟨fun hu => ?_, fun _ => rfl⟩
      rw [under_zero] at hu
      subst hu
      rw [idx_zero] at hk
      exact absurd hk (by have := hi.2.2; rwa [Int.toNat_natCast] at this)
    · rw [resF, if_neg hk]
      exact count_known h hl hp hk i
  | l + 1, p, hl, hp => by
    by_cases hk : (nd ns (idx (l + 1) p)).kind = 0
    · obtain ⟨p1, p2⟩ := half_lt hl hp
      obtain ⟨a1, a2⟩ := count_res h i hi l (2 * p) (by omega) p1
      obtain ⟨b1, b2⟩ := count_res h i hi l (2 * p + 1) (by omega) p2
      rw [resF, if_pos hk, List.countP_append, under_half]
      constructor
      · rintro (hu | hu)
        · rw [a1 hu, b2 (under_apart hu)]
        · rw [b1 hu, a2 fun k => under_apart k hu]
      · intro hu
        rw [a2 fun k => hu (.inl k), b2 fun k => hu (.inr k)]
    · rw [resF, if_neg hk]
      exact count_known h hl hp hk i
/-- all that stands for a spot has its number in the tree -/
theorem res_in {ns : List Nd} {d : Nat} (h : Right ns d) : ∀ (l p : Nat), l ≤ d → p < 2 ^ (d - l) → ∀ a ∈ resF ns l p, 0 ≤ a ∧ a < (ns.length : Int) := by
  have known : ∀ l p, l ≤ d → p < 2 ^ (d - l) → ∀ a ∈ knownF (idx l p) (nd ns (idx l p)), 0 ≤ a ∧ a < (ns.length : Int) := by
    intro l p hl hp a ha
    unfold knownF at ha
    have hlen := h.len
    have hx := idx_lt hl hp
    rcases List.mem_cons.1 ha with rfl | ha
    · omega
    · obtain ⟨j, hj, rfl⟩ := List.mem_map.1 ha
      have hth : There ns d j := by
        have hh := h.each l p hl hp
        revert hj hh
        generalize nd ns (idx l p) = n
        intro hj hh
        cases hh with
        | bl e => rw [e] at hj; cases hj
        | lf _ k => rw [k.un] at hj; cases hj
        | nod _ _ k => exact (k.each j hj).2
      obtain ⟨h0, h1, _⟩ := hth
      have e : ((2 ^ d : Nat) : Int) = (2 : Int) ^ d := by simp
      have e2 : 2 ^ (d + 1) = 2 * 2 ^ d := by rw [Nat.pow_succ]; omega
      show 0 ≤ 2 * j ∧ 2 * j < (ns.length : Int)
      omega
  intro l
  induction l with
  | zero =>
    intro p hl hp a ha
    rw [resF] at ha
    split at ha
    · cases ha
    · exact known 0 p hl hp a ha
  | succ l ih =>
    intro p hl hp a ha
    rw [resF] at ha
    obtain ⟨p1, p2⟩ := half_lt hl hp
    split at ha
    · rcases List.mem_append.1 ha with ha | ha
      · exact ih _ (by omega) p1 a ha
      · exact ih _ (by omega) p2 a ha
    · exact known (l + 1) p hl hp a ha
theorem mem_leavesTo {ns : List Nd} {i : Int} : ∀ k, i ∈ leavesTo ns k ↔ 0 ≤ i ∧ i < k ∧ (nd ns (2 * i.toNat)).kind ≠ 0
  | 0 => by simp [leavesTo]; omega
  | k + 1 => by
    rw [leavesTo, List.mem_append, mem_leavesTo k]
    constructor
    · rintro (⟨h1, h2, h3⟩ | h)
      · exact ⟨h1, by omega, h3⟩
      · split at h
        · cases h
        · rename_i hk
          rw [List.mem_singleton] at h
          subst h
          exact ⟨by omega, by omega, by rw [Int.toNat_natCast]; exact hk⟩
    · rintro ⟨h1, h2, h3⟩
      by_cases e : i = k
      · subst e
        rw [Int.toNat_natCast] at h3
        rw [if_neg h3]
        exact .inr (List.mem_singleton.2 rfl)
      · exact .inl ⟨h1, by omega, h3⟩
theorem mem_leavesF {ns : List Nd} {d : Nat} {i : Int} : i ∈ leavesF ns d ↔ There ns d i := by
  unfold leavesF There
  rw [mem_leavesTo]
  simp
end Go.Proofs.YtakglldffpnlaaaGreatDoor.Rt
