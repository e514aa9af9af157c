/- Walks: the closures that each is handed. -/
import Derived.Test.YtdkhiooiakdecaaDoorRSmWalkA
namespace Go.Proofs.YtdkhiooiakdecaaDoorR.Sm
open Go.RowKit
set_option linter.all false

set_option maxHeartbeats 400000 in
theorem mod1_any (b : Nat) (p : Nat → Int) (i : Nat) (w : World) (hi : i < 256) (h : w.rowIs b 26 256 (ints p)) :
    Calls Tryd.prog 53 #[.int .i64 i, .pointer (some ⟨b, 0, none⟩)] w fun e w' => e = .returned (.int .i64 (p i)) ∧ ∃ n, w' = w.drewN n := by
  have c := h.cell hi
  unfold ints at c
  clear h
  go_enter Tryd.func53, Tryd.ntmps53
  go_wp2
  go_ret
  exact ⟨rfl, 0, rfl⟩
end Go.Proofs.YtdkhiooiakdecaaDoorR.Sm
