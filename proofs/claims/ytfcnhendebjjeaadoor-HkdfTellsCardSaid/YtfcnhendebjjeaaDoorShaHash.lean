/- A hash as it lies in memory: its cells. -/
import Derived.Test.YtfcnhendebjjeaaDoorShaWalkB
namespace Go.Proofs.YtfcnhendebjjeaaDoor.Sha
set_option linter.all false
open Go.RowKit

def hsF (s : Hs) : Nat → Value := fun j => if j < 8 then .int .u32 ((gt s.st j : Nat) : Int) else if j < 72 then .int .u8 ((gt s.buf (j - 8) : Nat) : Int) else .int .u64 ((s.n : Nat) : Int)
def HsAt (w : World) (g : Nat) (s : Hs) : Prop := w.rowIs g 60 73 (hsF s)
section
variable {w w' : World} {g : Nat} {s : Hs}
theorem HsAt.st (h : HsAt w g s) (i : Nat) (hi : i < 8) : w.cell? ⟨g, i, none⟩ = some (.int .u32 (gt s.st i : Nat)) := by
  rw [World.rowIs.cell h (by omega)]; unfold hsF; rw [if_pos hi]
theorem HsAt.buf (h : HsAt w g s) (i : Nat) (hi : i < 64) : w.cell? ⟨g, 8 + i, none⟩ = some (.int .u8 (gt s.buf i : Nat)) := by
  rw [World.rowIs.cell h (by omega)]; unfold hsF; rw [if_neg (by omega), if_pos (by omega), show 8 + i - 8 = i by omega]
theorem HsAt.len (h : HsAt w g s) : w.cell? ⟨g, 72, none⟩ = some (.int .u64 (s.n : Nat)) := by
  rw [World.rowIs.cell h (by omega)]; rfl
theorem HsAt.frozen (h : HsAt w g s) (i : Nat) : w.frozen? ⟨g, i, none⟩ = false := World.rowIs.frozen h i
theorem HsAt.lt (h : HsAt w g s) : g < w.heap.size := World.rowIs.lt h
theorem HsAt.setSt (h : HsAt w g s) (hl : s.st.length = 8) (i v : Nat) (hi : i < 8) : HsAt (w.setCell ⟨g, i, none⟩ (.int .u32 (v : Nat))) g ⟨s.st.set i v, s.buf, s.n⟩ := by
  refine (World.rowIs.set h i _).congr fun j _ => ?_
  unfold hsF
  by_cases e : j = i
  · subst e; rw [if_pos rfl, if_pos hi, gt_set _ _ _ _ (by omega), if_pos rfl]
  · rw [if_neg e]
    by_cases hj : j < 8
    · rw [if_pos hj, if_pos hj, gt_set _ _ _ _ (by omega), if_neg e]
    · rw [if_neg hj, if_neg hj]
theorem HsAt.setLen (h : HsAt w g s) (m : Nat) : HsAt (w.setCell ⟨g, 72, none⟩ (.int .u64 (m : Nat))) g ⟨s.st, s.buf, m⟩ := by
  refine (World.rowIs.set h 72 _).congr fun j hj => ?_
  unfold hsF
  by_cases e : j = 72
  · subst e; rfl
  · rw [if_neg e]
    split
    · rfl
    · rw [if_pos (by omega), if_pos (by omega)]
theorem HsAt.drew (h : HsAt w g s) : HsAt w.drew g s := h
theorem HsAt.drewN (h : HsAt w g s) (k : Nat) : HsAt (w.drewN k) g s := h
theorem HsAt.alloc (h : HsAt w g s) (x : Obj) : HsAt (w.alloc x) g s := World.rowIs.alloc h x
theorem HsAt.far (h : HsAt w g s) {a : Addr} (ha : g ≠ a.block) (v : Value) : HsAt (w.setCell a v) g s := World.rowIs.setOther h ha v
theorem HsAt.of_block (h : HsAt w g s) (e : w'.heap[g]? = w.heap[g]?) : HsAt w' g s := World.rowIs.of_block h e
theorem HsAt.grown {row : Option Nat} (h : HsAt w g s) (hg : w.grownBy w' row) (hne : some g ≠ row) : HsAt w' g s := h.of_block (hg.block g h.lt hne)
theorem HsAt.below {B : Nat} (h : HsAt w g s) (hg : Below B w w') (hB : g < B) : HsAt w' g s := h.of_block (hg.block g hB)
end

end Go.Proofs.YtfcnhendebjjeaaDoor.Sha
