/- Walks: what is cut behind a place. -/
import Derived.Test.YtfhibjpkbbbfpaaDoorBxWalkD
import Derived.Test.YtfhibjpkbbbfpaaDoorBxRefB
namespace Go.Proofs.YtfhibjpkbbbfpaaDoor.Bx
set_option linter.all false
open Go.RowKit Wr

theorem run_front (ad : Addr) (n c p : Nat) (hp : p ≤ n) (hc : n ≤ c) (w : World) :
    (Instr.slice 22 (.slice (some ad) n c) none (some (.int .i64 (p : Int))) (some (.int .i64 (p : Int)))).run Tryd.prog w = .ok (.slice (some ad) p p) w := by
  have h1 : Tryd.prog.underlying 22 = some (.slice (Tryd.prog.elem 22)) := by kernel_rfl
  have h3 : Tryd.prog.elem 22 = 5 := by kernel_rfl
  have h4 : (Tryd.prog.info? 5).map (·.size) = some 1 := by kernel_rfl
  cases hq' : Tryd.prog.info? 5 with
  | none => simp [hq'] at h4
  | some i =>
    have hs1 : i.size = 1 := by simpa [hq'] using h4
    rw [run_slice_hm (a := some ad) (len := n) (cap := c) (w := w) (t := 22) (ht := h1) .i64 .i64 (p : Int) (p : Int) (by omega) (by omega) (by omega), h3]
    simp [sizeOf, typeInfo, hq', hs1, sliced, Addr.add]
theorem run_back (ad : Addr) (n c p : Nat) (hp : p < n) (hc : n ≤ c) (w : World) :
    (Instr.slice 22 (.slice (some ad) n c) (some (.int .i64 (p : Int))) (some (.int .i64 (n : Int))) (some (.int .i64 (n : Int)))).run Tryd.prog w = .ok (.slice (some (ad.add p)) (n - p) (n - p)) w := by
  have h1 : Tryd.prog.underlying 22 = some (.slice (Tryd.prog.elem 22)) := by kernel_rfl
  have h3 : Tryd.prog.elem 22 = 5 := by kernel_rfl
  have h4 : (Tryd.prog.info? 5).map (·.size) = some 1 := by kernel_rfl
  cases hq' : Tryd.prog.info? 5 with
  | none => simp [hq'] at h4
  | some i =>
    have hs1 : i.size = 1 := by simpa [hq'] using h4
    rw [run_slice_lhm (a := some ad) (len := n) (cap := c) (w := w) (t := 22) (ht := h1) .i64 .i64 .i64 (p : Int) (n : Int) (n : Int) (by omega) (by omega) (by omega) (by omega), h3]
    have e3 : ¬ n = p := by omega
    simp [sizeOf, typeInfo, hq', hs1, sliced, e3]
set_option maxHeartbeats 1000000 in
set_option maxRecDepth 100000 in
theorem cutBehind_any (ad : Addr) (n c p : Nat) (w : World) (hp : p < n) (hc : n ≤ c) :
    Calls Tryd.prog 17 #[.slice (some ad) n c, .int .i64 p] w fun e w' => e = .returned (.tuple #[.slice (some ad) p p, .slice (some (ad.add p)) (n - p) (n - p)]) ∧ ∃ m, w' = w.drewN m := by
  have h1 := fun W => run_front ad n c p (by omega) hc W
  have h2 := fun W => run_back ad n c p hp hc W
  go_enter Tryd.func17, Tryd.ntmps17
  go_wp2
  go_region
  go_wp2
  go_ret2
  exact ⟨rfl, 1, rfl⟩
/-- both parts of a text -/
theorem txt_front {S : Nat → Prop} {w : World} {ad : Addr} {n c : Nat} {bs : List Nat} (h : Txt S w (some ad) n c bs) (p : Nat) (hp : p ≤ n) : Txt S w (some ad) p p (bs.take p) := by
  have h' := h.head p hp
  exact ⟨h'.1, h'.2.1, Nat.le_refl _, by have := h.2.2.1; have := h.2.2.2.1; omega, fun e => (by cases e), h'.2.2.2.2.2⟩
theorem txt_back {S : Nat → Prop} {w : World} {ad : Addr} {n c : Nat} {bs : List Nat} (h : Txt S w (some ad) n c bs) (p : Nat) (hp : p ≤ n) : Txt S w (some (ad.add p)) (n - p) (n - p) (bs.drop p) := by
  have h' := h.part p n hp (Nat.le_refl _)
  have e : cut bs p n = bs.drop p := by unfold cut; exact List.take_of_length_le (by rw [List.length_drop, h.len]; omega)
  rw [e] at h'
  exact ⟨h'.1, h'.2.1, Nat.le_refl _, by have := h.2.2.1; have := h.2.2.2.1; omega, fun e => (by cases e), h'.2.2.2.2.2⟩
end Go.Proofs.YtfhibjpkbbbfpaaDoor.Bx
