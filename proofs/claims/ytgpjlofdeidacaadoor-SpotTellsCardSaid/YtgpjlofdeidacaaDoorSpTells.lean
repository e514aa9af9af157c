/- Walks: SpotTells: the program's calls and the document's, side by side. -/
import Derived.Test.YtgpjlofdeidacaaDoorSpBelow
namespace Go.Proofs.YtgpjlofdeidacaaDoor.Sp
set_option linter.all false
open Go.RowKit Fl

theorem f64_lt {x : Nat} (h : (Lit.float .f64 x).wf = true) : x < 2 ^ 64 := by
  simpa [Lit.wf] using h
theorem upF_small (re im : Nat) (o : Option (Nat × Nat)) (h : Is re im o) : (upF o).1 < 2 ^ 52 ∧ (upF o).2 < 2 ^ 52 := by
  rcases o with _ | ⟨l, p⟩
  · decide
  · have h1 := Spot.lev h; have h2 := Spot.small h (by decide)
    simp only [upF]; split <;> simp <;> omega
theorem otherF_small (re im : Nat) (o : Option (Nat × Nat)) (h : Is re im o) : (otherF o).1 < 2 ^ 52 ∧ (otherF o).2 < 2 ^ 52 := by
  rcases o with _ | ⟨l, p⟩
  · decide
  · have h1 := Spot.lev h; have h2 := Spot.small h (by decide)
    simp only [otherF]; split <;> simp <;> omega
theorem downF_small (re im : Nat) (right : Bool) (o : Option (Nat × Nat)) (h : Is re im o) : (downF right o).1 < 2 ^ 52 ∧ (downF right o).2 < 2 ^ 52 := by
  rcases o with _ | ⟨l, p⟩
  · simp [downF]
  · have h1 := Spot.lev h; have h2 := Spot.small h (by decide)
    simp only [downF]; split
    · simp
    · cases right <;> simp <;> omega

set_option maxHeartbeats 2000000 in
theorem spotTells_walk (re im : Nat) (deep : Int) (right : Bool) (leaf : Int) (w : World) (hT : Tab w) (hre : (Lit.float .f64 re).wf = true) (him : (Lit.float .f64 im).wf = true) (hd : (Lit.int .i64 deep).wf = true) (hl : (Lit.int .i64 leaf).wf = true) :
    Calls Tryd.prog 3 #[.float .f64 re, .float .f64 im, .int .i64 deep, .bool right, .int .i64 leaf] w fun e w' => e = .returned (.bool true) ∧ Below w.heap.size w w' := by
  have HD := Lib.hid (head_is w hT)
  obtain ⟨o, ho⟩ := is_any re im (f64_lt hre) (f64_lt him)
  obtain ⟨s1, s2⟩ := upF_small re im o ho
  obtain ⟨s3, s4⟩ := otherF_small re im o ho
  obtain ⟨s5, s6⟩ := downF_small re im right o ho
  obtain ⟨ux, hux⟩ : ∃ x, fl (upF o).1 = x := ⟨_, rfl⟩
  obtain ⟨uy, huy⟩ : ∃ x, fl (upF o).2 = x := ⟨_, rfl⟩
  obtain ⟨ox, hox⟩ : ∃ x, fl (otherF o).1 = x := ⟨_, rfl⟩
  obtain ⟨oy, hoy⟩ : ∃ x, fl (otherF o).2 = x := ⟨_, rfl⟩
  obtain ⟨dx, hdx⟩ : ∃ x, fl (downF right o).1 = x := ⟨_, rfl⟩
  obtain ⟨dy, hdy⟩ : ∃ x, fl (downF right o).2 = x := ⟨_, rfl⟩
  obtain ⟨rb, hrb⟩ : ∃ x, rightF deep o = x := ⟨_, rfl⟩
  obtain ⟨vb, hvb⟩ : ∃ x, overF leaf o = x := ⟨_, rfl⟩
  obtain ⟨n, hn⟩ : ∃ x, indexF o = x := ⟨_, rfl⟩
  have HR : Hid (RtC re im deep rb) := Lib.hid ⟨o, ho, hrb⟩
  have HI : Hid (IdxC re im n) := Lib.hid ⟨o, ho, hn⟩
  have HU : Hid (UpC re im ux uy) := Lib.hid ⟨o, ho, hux, huy⟩
  have HO : Hid (OtC re im ox oy) := Lib.hid ⟨o, ho, hox, hoy⟩
  have HDn : Hid (DnC re im right dx dy) := Lib.hid ⟨o, ho, hdx, hdy⟩
  have HV : Hid (OvC re im leaf vb) := Lib.hid ⟨o, ho, hvb⟩
  have o1 := same hux s1
  have o2 := same huy s2
  have o3 := same hox s3
  have o4 := same hoy s4
  have o5 := same hdx s5
  have o6 := same hdy s6
  clear hT hre him hd hl ho s1 s2 s3 s4 s5 s6 hux huy hox hoy hdx hdy hrb hvb hn
  go_enter Tryd.func3, Tryd.ntmps3
  go_wp2_with (first
    | (go_at_call 9; refine HD.out.mono ?_; rintro e' w1 ⟨rfl, hbw⟩; have HB := Lib.hid hbw; clear hbw)
    | (go_at_call 10; refine (right_c HR.out _).mono ?_; rintro e' w' ⟨rfl, rfl⟩)
    | (go_at_call 12; refine (index_c HI.out _).mono ?_; rintro e' w' ⟨rfl, rfl⟩)
    | (go_at_call 14; refine (up_c HU.out _).mono ?_; rintro e' w' ⟨rfl, rfl⟩)
    | (go_at_call 16; refine (other_c HO.out _).mono ?_; rintro e' w' ⟨rfl, rfl⟩)
    | (go_at_call 18; refine (down_c HDn.out _).mono ?_; rintro e' w' ⟨rfl, rfl⟩)
    | (go_at_call 20; refine (over_c HV.out _).mono ?_; rintro e' w' ⟨rfl, rfl⟩)
    | (go_at_call 11; refine (rright_c HR.out _).mono ?_; rintro e' w2 ⟨rfl, hbw⟩; have HB := Lib.hid (HB.out.trans (hbw.mono HB.out.size)); clear hbw)
    | (go_at_call 13; refine (rindex_c HI.out _).mono ?_; rintro e' w2 ⟨rfl, hbw⟩; have HB := Lib.hid (HB.out.trans (hbw.mono HB.out.size)); clear hbw)
    | (go_at_call 15; refine (rup_c HU.out _).mono ?_; rintro e' w2 ⟨rfl, hbw⟩; have HB := Lib.hid (HB.out.trans (hbw.mono HB.out.size)); clear hbw)
    | (go_at_call 17; refine (rother_c HO.out _).mono ?_; rintro e' w2 ⟨rfl, hbw⟩; have HB := Lib.hid (HB.out.trans (hbw.mono HB.out.size)); clear hbw)
    | (go_at_call 19; refine (rdown_c HDn.out _).mono ?_; rintro e' w2 ⟨rfl, hbw⟩; have HB := Lib.hid (HB.out.trans (hbw.mono HB.out.size)); clear hbw)
    | (go_at_call 21; refine (rover_c HV.out _).mono ?_; rintro e' w2 ⟨rfl, hbw⟩; have HB := Lib.hid (HB.out.trans (hbw.mono HB.out.size)); clear hbw)
    | go_in)
  go_ret
  exact ⟨rfl, HB.out⟩
end Go.Proofs.YtgpjlofdeidacaaDoor.Sp
