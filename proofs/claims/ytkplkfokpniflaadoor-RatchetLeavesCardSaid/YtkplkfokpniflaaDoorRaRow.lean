/- What the rows' proofs share: the tables out of the laid list; slices of bytes and eight bytes that came in. -/
import Derived.Test.YtkplkfokpniflaaDoorRaHead
import Derived.Test.YtkplkfokpniflaaDoorHkM4
import Derived.Carry
namespace Go.Proofs.YtkplkfokpniflaaDoor.Ra
set_option linter.all false
set_option maxRecDepth 100000
open Go.ChangeShapes Go.WideShapes Go.ChangeAt Go.RowKit
open Wr (Txt Any New bcells gt)

theorem tabs_of {W : World} (h : laidMetH Tryd.prog Sha.laidList W) : Tabs W := by
  have h0 : laidMet Tryd.prog Sha.laidList W := h
  have h2 : laidMet Tryd.prog [("sodality/sha2.roundConstants", Rows.laid_sodality_sha2_roundConstants)] W := h0.filter (fun x => x.1 == "sodality/sha2.roundConstants")
  have tl2 : Sha.TabAt W 2 .u32 Sha.consT := Sha.tabAt_of_is Sha.gRounds (Lib.tabIs_of_head (rest := []) Sha.gRounds (t := 96) (by kernel_rfl) Tryd.underlying96 Tryd.underlying91 (by kernel_rfl) (by kernel_rfl) h2)
  have l2 := tl2.lt
  have hG : 3 ≤ W.heap.size := by omega
  exact ⟨Sha.tables_of h hG⟩
theorem txt_of_row {w : World} {a : Option Addr} {len cap : Nat} {zs : List Int} (h : Sha.IsRow .u8 w a len cap zs) : Txt Any w a len cap (Sha.bytesOf zs len) := by
  obtain ⟨h1, h2, h3, h4, h5⟩ := Sha.rd_of_row h
  exact ⟨h1, h2, h3, h4, h5, fun _ _ => trivial⟩
section
variable {H : Type} {enc : TypeId × Value → H} {W : World} {held : Bool}
theorem txt_cam {n : Nat} {v : Value} {y : DataW H × List MemPlace} (h : DataW.trod enc Tryd.prog W 0 (fun _ => true) held n 22 [v] = some y) : ∃ A m c bs, v = .slice A m c ∧ Txt Any W A m c bs := by
  rcases open_ints Tryd.underlying22 Tryd.underlying5 (by kernel_rfl) h with ⟨hcs, _⟩ | ⟨x', l', c', zs, hcs, _, hl', hm', hz, _, hcell, hwz⟩
  · simp only [List.cons.injEq, and_true] at hcs
    subst hcs
    exact ⟨none, 0, 0, [], rfl, Txt.nil _ _⟩
  · simp only [List.cons.injEq, and_true] at hcs
    subst hcs
    exact ⟨some x', l', c', _, rfl, txt_of_row (.inr ⟨_, rfl, hl', hm', by simpa using hz, hcell, hwz⟩)⟩
theorem txt_came {a : Option Addr} {l c : Nat} {d : DataW H} {p : List MemPlace} (h : DataW.Trod enc Tryd.prog W 0 (fun _ => true) held 22 (.slice a l c) d p) : ∃ bs, Txt Any W a l c bs := by
  obtain ⟨fuel, hf⟩ := h
  obtain ⟨A, m, c', bs, e, hX⟩ := txt_cam (v := .slice a l c) (by simpa [Value.cells] using hf)
  injection e with e1 e2 e3
  subst e1 e2 e3
  exact ⟨bs, hX⟩
end
theorem eight_types : Tryd.prog.cellTypes Tryd.prog.depth 39 = some (List.replicate 8 5) := by kernel_rfl
theorem eight_cells : Tryd.prog.cellsOf 39 = 8 := by kernel_rfl
theorem cell_u8 {W : World} {r : Reach} {base : Nat} {v : Value} (h : Cell.okWide Tryd.prog W r base 5 v) : ∃ n : Nat, v = .int .u8 (n : Nat) ∧ n < 256 := by
  simp only [Cell.okWide, Tryd.underlying5, Cell.ok] at h
  cases v <;> simp_all
  obtain ⟨rfl, h⟩ := h
  simp [IntKind.has, IntKind.min, IntKind.max, IntKind.bits, IntKind.signed] at h
  rename_i n
  exact ⟨n.toNat, by omega, by omega⟩
/-- eight bytes that came in -/
theorem eight_of {W : World} {r : Reach} {base : Nat} {v : Value} (h : Value.okWide Tryd.prog W r base 39 v) : ∃ (cs : Array Value) (os : Nat → Nat), v = .agg cs ∧ cs.size = 8 ∧ ∀ i, i < 8 → cs[i]? = some (.int .u8 (os i : Nat)) ∧ os i < 256 := by
  simp only [Value.okWide, Tryd.underlying39] at h
  obtain ⟨cs, rfl, hsz, ts, hts, _, hc⟩ := h
  rw [eight_cells] at hsz
  rw [eight_types] at hts
  obtain rfl := Option.some.inj hts
  have hat : ∀ i, ∃ n : Nat, i < 8 → cs[i]? = some (.int .u8 (n : Nat)) ∧ n < 256 := fun i => by
    by_cases hi : i < 8
    · have hi' : i < cs.size := by omega
      obtain ⟨u, hu, hk⟩ := hc i cs[i] (Array.getElem?_eq_getElem hi')
      have hu' : u = 5 := by
        simp only [List.length_replicate] at hu
        rw [Nat.mod_eq_of_lt hi, List.getElem?_replicate, if_pos hi] at hu
        exact (Option.some.inj hu).symm
      subst hu'
      obtain ⟨n, hn, h1⟩ := cell_u8 hk
      exact ⟨n, fun _ => ⟨by rw [Array.getElem?_eq_getElem hi', hn], h1⟩⟩
    · exact ⟨0, fun h => absurd h hi⟩
  obtain ⟨os, hos⟩ := Classical.axiomOfChoice hat
  exact ⟨cs, os, rfl, hsz, hos⟩
end Go.Proofs.YtkplkfokpniflaaDoor.Ra
