/- RatchetOnce, plain: what was taken is gone; what is answered is right. -/
import Derived.Test.YtkplkfokpniflaaDoorRaOrdP
namespace Go.Proofs.YtkplkfokpniflaaDoor.Ra
set_option linter.all false
open Go.RowKit
open Wr (Txt Any New bcells gt)

theorem txt_cell {S : Nat → Prop} {w : World} {ad : Addr} {n c : Nat} {bs : List Nat} (h : Txt S w (some ad) n c bs) {i : Nat} (hi : i < n) : w.cell? (ad.add i) = some (.int .u8 (gt bs i : Nat)) := by
  obtain ⟨ad', e, _, hc⟩ := h.1.2 (by rw [h.len]; omega)
  injection e with e; subst e
  exact hc i (by rw [h.len]; exact hi)
theorem txt_some {S : Nat → Prop} {w : World} {A : Option Addr} {n c : Nat} {bs : List Nat} (h : Txt S w A n c bs) (hn : 0 < n) : ∃ ad, A = some ad := by
  obtain ⟨ad', e, _⟩ := h.1.2 (by rw [h.len]; exact hn)
  exact ⟨ad', e⟩
theorem over_kept : ∀ (n : Nat) {r : Rk} {k : Kd}, k ∈ (over n r).kept → k ∈ r.kept ∨ r.gen ≤ k.g
  | 0, r, k, h => .inl h
  | n + 1, r, k, h => by
    rcases over_kept n (r := pass r) (show k ∈ (over n (pass r)).kept from h) with h | h
    · have h : k ∈ l16 (r.kept ++ [⟨r.gen, ky r.sec r.gen⟩]) := h
      unfold l16 at h
      rcases List.mem_append.1 (List.mem_of_mem_drop h) with h | h
      · exact .inl h
      · rw [List.mem_singleton.1 h]; exact .inr (Int.le_refl _)
    · have h : r.gen + 1 ≤ k.g := h
      exact .inr (by omega)
theorem rise_erase_at {gen : Int} {g : Int} : ∀ {l : List Kd} {last : Int} {i : Nat}, rise last gen l = true → at' g l = some i → at' g (l.eraseIdx i) = none
  | [], _, _, _, h => by simp [at'] at h
  | a :: l, last, i, hr, h => by
    simp only [rise, Bool.and_eq_true, decide_eq_true_eq, beq_iff_eq] at hr
    obtain ⟨⟨⟨h1, h2⟩, h3⟩, h4⟩ := hr
    rw [at_cons] at h
    by_cases e : a.g = g
    · rw [if_pos e] at h
      injection h with h; subst h
      refine at_none.2 fun k hk => ?_
      have hk : k ∈ l := hk
      have := (rise_keys h4 k hk).1
      omega
    · rw [if_neg e] at h
      obtain ⟨j, hj, rfl⟩ := Option.map_eq_some_iff.1 h
      show at' g (a :: l.eraseIdx j) = none
      rw [at_cons, if_neg e, rise_erase_at h4 hj]; rfl
/-- right, not far; what was used is by and not kept -/
structure Us (u : Nat → Bool) (r : Rk) : Prop where
  right : Right r
  gen : r.gen ≤ 256
  us : ∀ j : Nat, u j = true → (j : Int) < r.gen ∧ at' j r.kept = none
theorem us_new {b : List Nat} (hb : b.length = 32) : Us (fun _ => false) (newR b) :=
  ⟨new_right hb, by rw [show newR b = ⟨0, b, []⟩ from if_pos hb]; show (0 : Int) ≤ 256; decide, fun _ h => (by cases h)⟩
theorem us_take {u : Nat → Bool} {r : Rk} (h : Us u r) {g : Nat} (hg : g < 256) :
    (takeR r g = (zR, [], 171)) ∨ (takeR r g = (zR, [], 172) ∧ u g = false) ∨ ∃ r' k, takeR r g = (r', k, 0) ∧ u g = false ∧ k.length = 32 ∧ Us (upd u g) r' := by
  have hr := (right_iff _).2 h.right
  by_cases h1 : (g : Int) < r.gen
  · rw [take_past hr h1]
    unfold keptR
    cases e : at' (g : Int) r.kept with
    | none => exact .inl rfl
    | some i =>
      refine .inr (.inr ⟨_, _, rfl, ?_, ?_, right_erase h.right i, h.gen, fun j hj => ?_⟩)
      · cases hu : u g with
        | false => rfl
        | true => rw [(h.us g hu).2] at e; cases e
      · obtain ⟨hi, _⟩ := at_some e
        exact (rise_keys h.right.ris _ (kd_mem hi)).2.2
      · unfold upd at hj
        by_cases ej : j = g
        · subst ej
          exact ⟨h1, rise_erase_at h.right.ris e⟩
        · rw [if_neg ej] at hj
          refine ⟨(h.us j hj).1, at_none.2 fun k hk => at_none.1 (h.us j hj).2 k (List.mem_of_mem_eraseIdx hk)⟩
  · have hug : u g = false := by
      cases hu : u g with
      | false => rfl
      | true => exact absurd (h.us g hu).1 h1
    by_cases h2 : 8 < (g : Int) - r.gen
    · exact .inr (.inl ⟨take_far hr h1 h2, hug⟩)
    · rw [take_on hr h1 h2 (by omega)]
      obtain ⟨n, hn⟩ : ∃ n : Nat, ((g : Int) - r.gen).toNat = n := ⟨_, rfl⟩
      have hlo := h.right.lo
      have hgn : (over n r).gen = (g : Int) := by rw [over_gen]; omega
      have hro : Right (over n r) := right_over n h.right (by have := h.gen; omega)
      rw [hn]
      refine .inr (.inr ⟨_, _, rfl, hug, ky_len _ _, right_next hro (by omega), ?_, fun j hj => ?_⟩)
      · show (over n r).gen + 1 ≤ 256; omega
      · show (j : Int) < (over n r).gen + 1 ∧ at' j (over n r).kept = none
        unfold upd at hj
        by_cases ej : j = g
        · subst ej
          exact ⟨by omega, at_none.2 fun k hk => by have := (rise_keys hro.ris k hk).2.1; omega⟩
        · rw [if_neg ej] at hj
          obtain ⟨a1, a2⟩ := h.us j hj
          refine ⟨by omega, at_none.2 fun k hk => ?_⟩
          rcases over_kept n hk with h' | h'
          · exact at_none.1 a2 k h'
          · omega
end Go.Proofs.YtkplkfokpniflaaDoor.Ra
