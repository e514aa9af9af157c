/- RatchetWindow, plain: how many are kept, and which is the last. -/
import Derived.Test.YtkplkfokpniflaaDoorRaOnceP
namespace Go.Proofs.YtkplkfokpniflaaDoor.Ra
set_option linter.all false
open Go.RowKit
open Wr (Txt Any New bcells gt)

theorem l16_len (l : List Kd) : (l16 l).length = min l.length 16 := by unfold l16; rw [List.length_drop]; omega
theorem pass_kept (r : Rk) : ∃ k : Kd, k.g = r.gen ∧ (pass r).kept = l16 (r.kept ++ [k]) := ⟨_, rfl, rfl⟩
theorem pass_len (r : Rk) : (pass r).kept.length = min (r.kept.length + 1) 16 := by
  obtain ⟨k, _, e⟩ := pass_kept r
  rw [e, l16_len, List.length_append, List.length_singleton]
theorem over_len : ∀ (n : Nat) {r : Rk}, r.kept.length ≤ 16 → (over n r).kept.length = min (r.kept.length + n) 16
  | 0, r, h => by rw [show over 0 r = r from rfl]; omega
  | n + 1, r, h => by
    have e := pass_len r
    rw [show over (n + 1) r = over n (pass r) from rfl]
    obtain ⟨s, hs⟩ : ∃ s, pass r = s := ⟨_, rfl⟩
    rw [hs] at e ⊢
    rw [over_len n (by omega), e]; omega
theorem kd_drop_at (l : List Kd) (k j : Nat) : kd (l.drop k) j = kd l (k + j) := by
  unfold kd; rw [List.getD_eq_getElem?_getD, List.getD_eq_getElem?_getD, List.getElem?_drop]
theorem kd_last (l : List Kd) (k : Kd) : kd (l16 (l ++ [k])) ((l16 (l ++ [k])).length - 1) = k := by
  rw [l16_len]
  unfold l16
  rw [kd_drop_at, List.length_append, List.length_singleton, kd_append, if_neg (by omega), show l.length + 1 - 16 + (min (l.length + 1) 16 - 1) - l.length = 0 by omega]
  rfl
theorem over_last {n : Nat} {r : Rk} (hn : 0 < n) (h : r.kept.length ≤ 16) : 0 < (over n r).kept.length ∧ (kd (over n r).kept ((over n r).kept.length - 1)).g = r.gen + n - 1 := by
  have hl := over_len n h
  obtain ⟨m, rfl⟩ : ∃ m, n = m + 1 := ⟨n - 1, by omega⟩
  have hg := over_gen m r
  refine ⟨by omega, ?_⟩
  rw [over_succ]
  obtain ⟨s, hs⟩ : ∃ s, over m r = s := ⟨_, rfl⟩
  rw [hs] at hg ⊢
  obtain ⟨k, hk, e⟩ := pass_kept s
  rw [e, kd_last, hk]
  omega
theorem win_on {r : Rk} (h : Right r) (hg : r.gen ≤ 1000) {N : Nat} (hN : N ≤ 8) : ∃ r' k, takeR r (r.gen + N) = (r', k, 0) ∧ Right r' ∧ r'.gen = r.gen + N + 1 ∧ r'.kept.length = min (r.kept.length + N) 16 ∧ (0 < N → 0 < r'.kept.length ∧ (kd r'.kept (r'.kept.length - 1)).g = r.gen + N - 1) := by
  have hlo := h.lo
  have hr := (right_iff _).2 h
  have hro : Right (over N r) := right_over N h (by omega)
  have hgn := over_gen N r
  rw [take_on hr (by omega) (by omega) (by omega), show (r.gen + (N : Int) - r.gen).toNat = N by omega]
  refine ⟨_, _, rfl, right_next hro (by omega), ?_, ?_, fun hn => ?_⟩
  · rw [show (nextR (over N r)).gen = (over N r).gen + 1 from rfl]; omega
  · exact over_len N h.many
  · exact over_last hn h.many
theorem win_far {r : Rk} (h : Right r) {N : Nat} (hN : 8 < N) : takeR r (r.gen + N) = (zR, [], 172) :=
  take_far ((right_iff _).2 h) (by omega) (by omega)
end Go.Proofs.YtkplkfokpniflaaDoor.Ra
