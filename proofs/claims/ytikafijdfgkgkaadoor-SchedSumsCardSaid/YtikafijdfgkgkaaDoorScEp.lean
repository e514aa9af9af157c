/- An epoch that came in. -/
import Derived.Test.YtikafijdfgkgkaaDoorScWalkC
import Derived.Test.YtikafijdfgkgkaaDoorScRow
import Derived.Lib.SmallJoins
import Derived.Deep.Slices
import Derived.Deep.Fields
import Derived.ChangeSame
namespace Go.Proofs.YtikafijdfgkgkaaDoor.Sc
set_option linter.all false
set_option maxRecDepth 100000
open Go.ChangeShapes Go.WideShapes Go.ChangeAt Go.RowKit
open Wr (Txt Any New)

section
variable {H : Type} {enc : TypeId × Value → H} {W : World} {held : Bool}
theorem txt_cam {n : Nat} {v : Value} {y : DataW H × List MemPlace} (h : DataW.trod enc Tryd.prog W 0 (fun _ => true) held n 22 [v] = some y) : ∃ A m c bs, v = .slice A m c ∧ Txt Any W A m c bs := by
  rcases open_ints Tryd.underlying22 Tryd.underlying5 (by kernel_rfl) h with ⟨hcs, _⟩ | ⟨x', l', c', zs, hcs, _, hl', hm', hz, _, hcell, hwz⟩
  · simp only [List.cons.injEq, and_true] at hcs
    subst hcs
    exact ⟨none, 0, 0, [], rfl, Txt.nil _ _⟩
  · simp only [List.cons.injEq, and_true] at hcs
    subst hcs
    exact ⟨some x', l', c', _, rfl, Wr.txt_of_row (.inr ⟨_, rfl, hl', hm', by simpa using hz, hcell, hwz⟩)⟩
theorem array7 {α : Type} {cs : Array α} (h : cs.size = 7) : ∃ c0 c1 c2 c3 c4 c5 c6, cs = #[c0, c1, c2, c3, c4, c5, c6] := by
  obtain ⟨l⟩ := cs
  match l, h with
  | [c0, c1, c2, c3, c4, c5, c6], _ => exact ⟨c0, c1, c2, c3, c4, c5, c6, rfl⟩
theorem field_one {t : TypeId} {fs : Array Field} {fuel : Nat} {cs : List Value} {x : DataW H × List MemPlace} (ht : Tryd.prog.underlying t = some (.struct fs)) (hone : Go.Deep.oneCellFields Tryd.prog fs = true) (hs : cs.length = fs.size)
    (h : DataW.trod enc Tryd.prog W 0 (fun _ => true) held fuel t cs = some x) (j : Nat) (f : Field) (hj : fs[j]? = some f) (v : Value) (hv : cs[j]? = some v) :
    ∃ n y, DataW.trod enc Tryd.prog W 0 (fun _ => true) held n f.type [v] = some y := by
  obtain ⟨ys, n', hn', hy, hlen, hyl, hf⟩ := DataW.trod_struct ht h
  obtain ⟨ho, hk⟩ := Go.Deep.hone_of hone j f hj
  have hjl : j < fs.size := (Array.getElem?_eq_some_iff.1 hj).1
  have h1 := hf j f hj
  rw [ho, hk] at h1
  have hjc : j < cs.length := by omega
  have e : (cs.drop j).take 1 = [v] := by
    rw [List.drop_eq_getElem_cons hjc]
    have := List.getElem?_eq_getElem hjc
    rw [hv] at this
    injection this with this
    rw [← this]; rfl
  rw [e] at h1
  exact ⟨n', _, h1.trans (List.getElem?_eq_getElem (by omega))⟩
/-- an epoch that came in -/
theorem epoch_cam {base : Nat} {v : Value} {d : DataW H} {p : List MemPlace} (hv : Value.okWide Tryd.prog W .any base 28 v) (h : DataW.Trod enc Tryd.prog W 0 (fun _ => true) held 28 v d p) :
    ∃ (q : Q7) (key : List Nat), v = .agg #[.slice q.A0 q.n0 q.c0, .slice q.A1 q.n1 q.c1, .slice q.A2 q.n2 q.c2, .slice q.A3 q.n3 q.c3, .slice q.A4 q.n4 q.c4, .slice q.A5 q.n5 q.c5, .slice q.A6 q.n6 q.c6] ∧ Txt Any W q.A3 q.n3 q.c3 key := by
  obtain ⟨cs, rfl, hsz⟩ := okWide_struct Tryd.underlying28 hv
  obtain ⟨v0, v1, v2, v3, v4, v5, v6, rfl⟩ := array7 (hsz.trans (by kernel_rfl))
  obtain ⟨fuel, hf⟩ := h
  have F := field_one (cs := [v0, v1, v2, v3, v4, v5, v6]) Tryd.underlying28 (by kernel_rfl) rfl (by simpa [Value.cells] using hf)
  obtain ⟨m0, y0, u0⟩ := F 0 _ rfl v0 rfl
  obtain ⟨m1, y1, u1⟩ := F 1 _ rfl v1 rfl
  obtain ⟨m2, y2, u2⟩ := F 2 _ rfl v2 rfl
  obtain ⟨m3, y3, u3⟩ := F 3 _ rfl v3 rfl
  obtain ⟨m4, y4, u4⟩ := F 4 _ rfl v4 rfl
  obtain ⟨m5, y5, u5⟩ := F 5 _ rfl v5 rfl
  obtain ⟨m6, y6, u6⟩ := F 6 _ rfl v6 rfl
  obtain ⟨A0, n0, c0, b0, rfl, t0⟩ := txt_cam u0
  obtain ⟨A1, n1, c1, b1, rfl, t1⟩ := txt_cam u1
  obtain ⟨A2, n2, c2, b2, rfl, t2⟩ := txt_cam u2
  obtain ⟨A3, n3, c3, b3, rfl, t3⟩ := txt_cam u3
  obtain ⟨A4, n4, c4, b4, rfl, t4⟩ := txt_cam u4
  obtain ⟨A5, n5, c5, b5, rfl, t5⟩ := txt_cam u5
  obtain ⟨A6, n6, c6, b6, rfl, t6⟩ := txt_cam u6
  exact ⟨⟨A0, n0, c0, A1, n1, c1, A2, n2, c2, A3, n3, c3, A4, n4, c4, A5, n5, c5, A6, n6, c6⟩, b3, rfl, t3⟩
end
end Go.Proofs.YtikafijdfgkgkaaDoor.Sc
