/- Open, of whatever lengths: the document's, and the program's where tags whose own tags are alike are alike. -/
import Derived.Test.YtfhibjpkbbbfpaaDoorBxRefC
import Derived.Test.YtfhibjpkbbbfpaaDoorBxHead
namespace Go.Proofs.YtfhibjpkbbbfpaaDoor.Bx
set_option linter.all false
open Go.RowKit Wr

/-- what Open tells -/
def openF (key ahead closed : List Nat) : List Nat × Nat :=
  if ¬ key.length = 32 then ([], 1) else if 32768 < ahead.length ∨ 32800 < closed.length then ([], 2) else if closed.length < 32 then ([], 121) else openP key ahead closed
theorem openF_bad {key ahead closed : List Nat} {nk na L : Nat} (e1 : key.length = nk) (e2 : ahead.length = na) (e3 : closed.length = L) (h : ¬ nk = 32 ∨ 32768 < na ∨ 32800 < L ∨ L < 32) :
    openF key ahead closed = ([], if nk = 32 then if 32768 < na ∨ 32800 < L then 2 else 121 else 1) := by
  subst e1 e2 e3
  unfold openF
  by_cases h1 : key.length = 32
  · rw [if_neg (fun e => e h1), if_pos h1]
    by_cases h2 : 32768 < ahead.length ∨ 32800 < closed.length
    · rw [if_pos h2, if_pos h2]
    · rw [if_neg h2, if_neg h2, if_pos (by omega)]
  · rw [if_pos h1, if_neg h1]
theorem openF_ok {key ahead closed : List Nat} (h : ¬ (¬ key.length = 32 ∨ 32768 < ahead.length ∨ 32800 < closed.length ∨ closed.length < 32)) : openF key ahead closed = openP key ahead closed := by
  unfold openF; rw [if_neg (by omega), if_neg (by omega), if_neg (by omega)]
theorem int_ite (p : Prop) [Decidable p] (a b : Nat) : (((if p then a else b : Nat)) : Int) = if p then (a : Int) else (b : Int) := by split <;> rfl
theorem ropen_any (K A D : Option Addr) (key ahead closed : List Nat) (nk ck na ca L cd : Nat) (w : World) (h3' : 6 ≤ w.heap.size) (hK : Txt Any w K nk ck key) (hA : Txt Any w A na ca ahead) (hD : Txt Any w D L cd closed)
    (r : List Nat × Nat) (hr : Hid (openF key ahead closed = r)) :
    Calls Tryd.prog 12 #[.slice K nk ck, .slice A na ca, .slice D L cd] w (ToldE r w) := by
  have e1 := hK.len; have e2 := hA.len; have e3 := hD.len
  rw [← hr.out]
  by_cases hbad : ¬ nk = 32 ∨ 32768 < na ∨ 32800 < L ∨ L < 32
  · refine (ropen_bad K A D nk ck na ca L cd w hbad).mono ?_
    rintro e w' ⟨rfl, hB⟩
    rw [openF_bad e1 e2 e3 hbad]
    exact ⟨none, 0, 0, by simp only [int_ite]; rfl, Txt.nil _ _, hB⟩
  · obtain rfl : nk = 32 := by omega
    rw [openF_ok (by omega)]
    exact ropen_ok K D A key ahead closed ck na ca L cd w h3' hK hA hD (by omega) (by omega) (by omega) _ (Lib.hid rfl)
/-- what the program's Open tells is what the document says -/
theorem openQ_eq (key ahead closed : List Nat) : openQ key ahead closed = openP key ahead closed := by
  unfold openQ openP
  simp only [eq_comm]
theorem open_any (K A D : Option Addr) (key ahead closed : List Nat) (nk ck na ca L cd : Nat) (w : World) (hT : Tabs w) (hK : Txt Any w K nk ck key) (hA : Txt Any w A na ca ahead) (hD : Txt Any w D L cd closed)
    (r : List Nat × Nat) (hr : Hid (openF key ahead closed = r)) :
    Calls Tryd.prog 10 #[.slice K nk ck, .slice A na ca, .slice D L cd] w (ToldE r w) := by
  have e1 := hK.len; have e2 := hA.len; have e3 := hD.len
  rw [← hr.out]
  by_cases hbad : ¬ nk = 32 ∨ 32768 < na ∨ 32800 < L ∨ L < 32
  · refine (open_bad K A D nk ck na ca L cd w hbad).mono ?_
    rintro e w' ⟨rfl, hB⟩
    rw [openF_bad e1 e2 e3 hbad]
    exact ⟨none, 0, 0, by simp only [int_ite]; rfl, Txt.nil _ _, hB⟩
  · obtain rfl : nk = 32 := by omega
    rw [openF_ok (by omega), ← openQ_eq]
    exact open_ok K D A key ahead closed ck na ca L cd w hT hK hA hD (by omega) (by omega) (by omega) _ (Lib.hid rfl)
end Go.Proofs.YtfhibjpkbbbfpaaDoor.Bx
