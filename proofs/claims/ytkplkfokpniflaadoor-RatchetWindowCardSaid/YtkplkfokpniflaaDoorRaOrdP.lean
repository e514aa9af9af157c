/- RatchetOrder, plain: the chain of secrets, and a ratchet of which some numbers were taken. -/
import Derived.Test.YtkplkfokpniflaaDoorRaHead
namespace Go.Proofs.YtkplkfokpniflaaDoor.Ra
set_option linter.all false
open Go.RowKit
open Wr (Txt Any New bcells gt)

/-- the secrets, one behind the other; the keys -/
def sq (b : List Nat) : Nat → List Nat
  | 0 => b
  | i + 1 => nx (sq b i) i
def KY (b : List Nat) (j : Nat) : List Nat := ky (sq b j) j
theorem KY_eq (b : List Nat) (j : Nat) : ky (sq b j) j = KY b j := rfl
theorem sq_succ (b : List Nat) (j : Nat) : nx (sq b j) j = sq b (j + 1) := rfl
theorem sq_len {b : List Nat} (hb : b.length = 32) : ∀ i, (sq b i).length = 32
  | 0 => hb
  | i + 1 => nx_len _ _
/-- the keys that are kept, of those below m that were not used -/
def kl (b : List Nat) (u : Nat → Bool) : Nat → List Kd
  | 0 => []
  | m + 1 => kl b u m ++ (if u m = true then [] else [⟨m, KY b m⟩])
def stR (b : List Nat) (u : Nat → Bool) (m : Nat) : Rk := ⟨m, sq b m, kl b u m⟩
def upd (u : Nat → Bool) (g : Nat) : Nat → Bool := fun j => if j = g then true else u j
theorem stR_eq (b : List Nat) (u : Nat → Bool) (m : Nat) : stR b u m = ⟨m, sq b m, kl b u m⟩ := rfl
theorem pass_eq (g : Int) (s : List Nat) (k : List Kd) : pass ⟨g, s, k⟩ = ⟨g + 1, nx s g, l16 (k ++ [⟨g, ky s g⟩])⟩ := rfl
theorem kl_len (b : List Nat) (u : Nat → Bool) : ∀ m, (kl b u m).length ≤ m
  | 0 => Nat.le_refl _
  | m + 1 => by
    have := kl_len b u m
    unfold kl; rw [List.length_append]; split <;> simp <;> omega
theorem kl_rise (b : List Nat) (u : Nat → Bool) : ∀ m : Nat, rise (-1) m (kl b u m) = true
  | 0 => rfl
  | m + 1 => by
    have h := kl_rise b u m
    unfold kl
    by_cases hu : u m = true
    · rw [if_pos hu, List.append_nil]
      exact rise_mono (by omega) (Int.le_refl _) h
    · rw [if_neg hu]
      exact rise_append (gen := (m : Int)) (k := ⟨m, KY b m⟩) rfl (ky_len _ _) (by omega) h
theorem st_right {b : List Nat} (hb : b.length = 32) (u : Nat → Bool) {m : Nat} (hm : m ≤ 16) : Right (stR b u m) :=
  ⟨by show (0 : Int) ≤ (m : Int); omega, by show (m : Int) ≤ 1073741824; omega, sq_len hb m, by have := kl_len b u m; show (kl b u m).length ≤ 16; omega, kl_rise b u m⟩
theorem kl_congr {b : List Nat} {u u' : Nat → Bool} : ∀ {m : Nat}, (∀ j, j < m → u j = u' j) → kl b u m = kl b u' m
  | 0, _ => rfl
  | m + 1, h => by
    unfold kl
    rw [kl_congr (m := m) fun j hj => h j (by omega), h m (by omega)]
theorem kl_mem {b : List Nat} {u : Nat → Bool} : ∀ {m : Nat} {k : Kd}, k ∈ kl b u m → ∃ j : Nat, j < m ∧ k = ⟨j, KY b j⟩ ∧ u j = false
  | 0, k, h => by cases h
  | m + 1, k, h => by
    unfold kl at h
    rcases List.mem_append.1 h with h | h
    · obtain ⟨j, h1, h2, h3⟩ := kl_mem h
      exact ⟨j, by omega, h2, h3⟩
    · by_cases hu : u m = true
      · rw [if_pos hu] at h; cases h
      · rw [if_neg hu] at h
        obtain rfl := List.mem_singleton.1 h
        exact ⟨m, by omega, rfl, by simpa using hu⟩
theorem kl_used {b : List Nat} {u : Nat → Bool} {g : Nat} (m : Nat) (h : u g = true) : at' g (kl b u m) = none := by
  refine at_none.2 fun k hk e => ?_
  obtain ⟨j, _, rfl, hu⟩ := kl_mem hk
  have : j = g := Int.ofNat_inj.1 e
  rw [this, h] at hu; cases hu
theorem at_cons (g : Int) (a : Kd) (l : List Kd) : at' g (a :: l) = if a.g = g then some 0 else (at' g l).map (· + 1) := rfl
theorem at_append (g : Int) : ∀ (l l' : List Kd), at' g (l ++ l') = match at' g l with | some i => some i | none => (at' g l').map (· + l.length)
  | [], l' => by
    rw [List.nil_append, show at' g ([] : List Kd) = none from rfl]
    cases at' g l' <;> rfl
  | a :: l, l' => by
    rw [List.cons_append, at_cons, at_cons, at_append g l l']
    by_cases h : a.g = g
    · rw [if_pos h, if_pos h]
    · rw [if_neg h, if_neg h]
      cases at' g l with
      | none =>
        cases at' g l' with
        | none => rfl
        | some i => show some (i + l.length + 1) = some (i + (l.length + 1)); rfl
      | some i => rfl
theorem kl_at {b : List Nat} {u : Nat → Bool} {g : Nat} : ∀ {m : Nat}, g < m → u g = false → ∃ i, at' g (kl b u m) = some i ∧ (kl b u m).eraseIdx i = kl b (upd u g) m ∧ (kd (kl b u m) i).key = KY b g
  | 0, h, _ => by omega
  | m + 1, h, hu => by
    by_cases e : g = m
    · subst e
      have hn : at' g (kl b u g) = none := at_none.2 fun k hk e => by
        obtain ⟨j, hj, rfl, _⟩ := kl_mem hk
        have : j = g := Int.ofNat_inj.1 e
        omega
      have e1 : kl b u (g + 1) = kl b u g ++ [⟨g, KY b g⟩] := by rw [kl, if_neg (by rw [hu]; decide)]
      have e2 : kl b (upd u g) (g + 1) = kl b u g := by
        rw [kl, if_pos (by unfold upd; rw [if_pos rfl]), List.append_nil]
        exact kl_congr fun j hj => by unfold upd; rw [if_neg (by omega)]
      refine ⟨(kl b u g).length, ?_, ?_, ?_⟩
      · rw [e1, at_append, hn]; simp [at']
      · rw [e1, e2, List.eraseIdx_append_of_length_le (Nat.le_refl _), Nat.sub_self]; simp
      · rw [e1, kd_append, if_neg (Nat.lt_irrefl _), Nat.sub_self]; rfl
    · obtain ⟨i, h1, h2, h3⟩ := kl_at (m := m) (by omega) hu
      have hi := (at_some h1).1
      refine ⟨i, ?_, ?_, ?_⟩
      · rw [kl, at_append, h1]
      · rw [kl, kl, List.eraseIdx_append_of_lt_length hi, h2, show upd u g m = u m by unfold upd; rw [if_neg (by omega)]]
      · rw [kl, kd_append, if_pos hi]; exact h3
theorem l16_le {l : List Kd} (h : l.length ≤ 16) : l16 l = l := by unfold l16; rw [show l.length - 16 = 0 by omega]; rfl
theorem st_pass {b : List Nat} {u : Nat → Bool} {m : Nat} (hm : m < 16) (hu : u m = false) : pass (stR b u m) = stR b u (m + 1) := by
  have h := kl_len b u m
  have e : kl b u (m + 1) = kl b u m ++ [⟨m, KY b m⟩] := by rw [kl, if_neg (by rw [hu]; decide)]
  have e2 : l16 (kl b u m ++ [⟨(m : Int), ky (sq b m) m⟩]) = kl b u (m + 1) := by
    rw [e, KY_eq, l16_le (by rw [List.length_append]; simp; omega)]
  rw [stR_eq, stR_eq, pass_eq, e2, sq_succ, show ((m + 1 : Nat) : Int) = (m : Int) + 1 by omega]
theorem st_over {b : List Nat} {u : Nat → Bool} : ∀ (n : Nat) {m : Nat}, m + n ≤ 16 → (∀ j, m ≤ j → u j = false) → over n (stR b u m) = stR b u (m + n)
  | 0, m, _, _ => rfl
  | n + 1, m, h, hu => by
    rw [show over (n + 1) (stR b u m) = over n (pass (stR b u m)) from rfl, st_pass (by omega) (hu m (Nat.le_refl _)), st_over n (by omega) (fun j hj => hu j (by omega)), show m + 1 + n = m + (n + 1) by omega]
/-- what was used is used -/
theorem st_used {b : List Nat} (hb : b.length = 32) {u : Nat → Bool} {m g : Nat} (hm : m ≤ 8) (hu : ∀ j, m ≤ j → u j = false) (h : u g = true) : takeR (stR b u m) g = (zR, [], 171) := by
  have hg : g < m := by
    rcases Nat.lt_or_ge g m with h' | h'
    · exact h'
    · rw [hu g h'] at h; cases h
  rw [take_past ((right_iff _).2 (st_right hb u (by omega))) (by show (g : Int) < (m : Int); omega)]
  unfold keptR
  rw [show (stR b u m).kept = kl b u m from rfl, kl_used m h]
/-- what was not is told, and used from then on -/
theorem st_take {b : List Nat} (hb : b.length = 32) {u : Nat → Bool} {m g : Nat} (hm : m ≤ 8) (hg : g < 8) (hu : ∀ j, m ≤ j → u j = false) (h : u g = false) :
    ∃ m', m' ≤ 8 ∧ (∀ j, m' ≤ j → upd u g j = false) ∧ takeR (stR b u m) g = (stR b (upd u g) m', KY b g, 0) := by
  have hr := (right_iff _).2 (st_right hb u (m := m) (by omega))
  by_cases h1 : g < m
  · refine ⟨m, hm, fun j hj => by unfold upd; rw [if_neg (by omega)]; exact hu j hj, ?_⟩
    rw [take_past hr (by show (g : Int) < (m : Int); omega)]
    obtain ⟨i, e1, e2, e3⟩ := kl_at (b := b) h1 h
    unfold keptR
    rw [show (stR b u m).kept = kl b u m from rfl, e1]
    show ((⟨(m : Int), sq b m, (kl b u m).eraseIdx i⟩ : Rk), (kd (kl b u m) i).key, (0 : Int)) = _
    rw [e2, e3]; rfl
  · refine ⟨g + 1, by omega, fun j hj => by unfold upd; rw [if_neg (by omega)]; exact hu j (by omega), ?_⟩
    rw [take_on hr (by show ¬ (g : Int) < (m : Int); omega) (by show ¬ 8 < (g : Int) - (m : Int); omega) (by omega)]
    rw [show ((g : Int) - (stR b u m).gen).toNat = g - m by show ((g : Int) - (m : Int)).toNat = _; omega, st_over (g - m) (by omega) hu, show m + (g - m) = g by omega]
    have e : kl b u g = kl b (upd u g) (g + 1) := by
      rw [kl, if_pos (by unfold upd; rw [if_pos rfl]), List.append_nil]
      exact kl_congr fun j hj => by unfold upd; rw [if_neg (by omega)]
    show (Rk.mk ((g : Int) + 1) (nx (sq b g) g) (kl b u g), KY b g, (0 : Int)) = (⟨((g + 1 : Nat) : Int), sq b (g + 1), kl b (upd u g) (g + 1)⟩, KY b g, 0)
    rw [e]; rfl
/-- none used, none kept -/
theorem sq_next {b : List Nat} (hb : b.length = 32) {i : Nat} (hi : i ≤ 8) : nextQ ⟨i, sq b i, []⟩ = (⟨((i + 1 : Nat) : Int), sq b (i + 1), []⟩, (i : Int), KY b i, 0) := by
  have hr : Right ⟨i, sq b i, []⟩ := ⟨by show (0 : Int) ≤ (i : Int); omega, by show (i : Int) ≤ 1073741824; omega, sq_len hb i, Nat.zero_le _, rfl⟩
  unfold nextQ
  rw [if_neg (by rw [(right_iff _).2 hr]; decide), if_neg (by show ¬ (i : Int) = 1073741824; omega)]
  rfl
theorem st_new {b : List Nat} (hb : b.length = 32) : newR b = ⟨((0 : Nat) : Int), sq b 0, []⟩ := if_pos hb
theorem st_new' {b : List Nat} (hb : b.length = 32) : newR b = stR b (fun _ => false) 0 := if_pos hb
end Go.Proofs.YtkplkfokpniflaaDoor.Ra
