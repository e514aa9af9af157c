/- What the laws of added leaves share: Add beside a cell of one's own, and a cut behind a piece of code. -/
import Derived.Test.YtakglldffpnlaaaGreatDoorRtWalkX
import Derived.Test.YtakglldffpnlaaaGreatDoorRtM2
import Derived.Test.YtakglldffpnlaaaGreatDoorRtGreat
namespace Go.Proofs.YtakglldffpnlaaaGreatDoor.Rt
set_option linter.all false
open Go.RowKit
open Wr (Txt Any New)

theorem law_add (d : Nat) (A : Option Addr) (n c : Nat) (ns : List Nd) (b : Nat) (d2 f2 N2 : Nat) (ns2 : List Nd) (hx : firstB ns d = f2 ∧ addD ns d = d2 ∧ addF ns d (leafN b) = ns2) (hr : Right ns d) (h2 : d2 ≤ 6) (hN2 : 2 ^ (d2 + 1) - 1 = N2)
    (B : Nat) (q : NdQ) (w : World) (hN : Nodes Any Any w A n c ns) (hF : ∀ ad, A = some ad → ∀ j q, j < n → NdAt w (ad.add (j * 6)) q → NdFar (fun x => x ≠ B) q) (hq : NdIs Any w q (leafN b)) (hf : NdFar (fun x => x ≠ B) q) (hT : Tabs w) :
    Calls Tryz.prog 9 #[.agg #[.int .i64 d, .slice A n c], .agg q.cs] w fun e w' => ∃ g2 bs2, e = .returned (.tuple #[.agg #[.int .i64 d2, .slice (some ⟨g2, 0, none⟩) N2 N2], .int .i64 f2, .int .i64 0]) ∧ w.heap.size ≤ g2 ∧ OwnN (fun x => x ≠ g2 ∧ (B < w.heap.size → x ≠ B) ∧ x < w'.heap.size) w' bs2 g2 N2 N2 ns2 ∧ Below w.heap.size w w' := by
  obtain ⟨x1, x2, x3⟩ := hx
  have h := add_yesS (fun x => x ≠ B ∧ x < w.heap.size) d A n c ns q (leafN b) w hN hq (fun _ h => h.2) (fun ad e j q hj hat => (hF ad e j q hj hat).and (hN.farB (Below.refl _ _) ad e j q hj hat)) (hf.and hq.far) hT hr (leafN_right b) (by rw [x2]; exact h2)
  rw [x1, x2, x3, hN2] at h
  refine h.mono ?_
  rintro e w' ⟨g2, he, ⟨bs, hbs, ho⟩, hb⟩
  refine ⟨g2, bs, he, Nat.le_trans hbs ho.lt.1, ?_, hb⟩
  refine (ho.near).mono (fun x hx => ⟨?_, fun hBw => ?_, hx.2⟩) (fun x hx => hx.1)
  · have hg := ho.lt.1
    rcases hx.1 with h1 | h1
    · omega
    · exact h1.2
  · rcases hx.1 with h1 | h1
    · exact h1.1
    · omega
theorem law_renew (d : Nat) (A : Option Addr) (n c : Nat) (ns : List Nd) (b j N : Nat) (ms : List Nd) (hr : Right ns d) (hj : There ns d (j : Int)) (hN2 : 2 ^ (d + 1) - 1 = N) (hms : renF ns d j (leafN b) = ms)
    (B : Nat) (q : NdQ) (w : World) (hN : Nodes Any Any w A n c ns) (hF : ∀ ad, A = some ad → ∀ j q, j < n → NdAt w (ad.add (j * 6)) q → NdFar (fun x => x ≠ B) q) (hq : NdIs Any w q (leafN b)) (hf : NdFar (fun x => x ≠ B) q) (hT : Sp.Tab w) :
    Calls Tryz.prog 11 #[.agg #[.int .i64 d, .slice A n c], .int .i64 j, .agg q.cs] w fun e w' => ∃ g2 bs2, e = .returned (.tuple #[.agg #[.int .i64 d, .slice (some ⟨g2, 0, none⟩) N N], .int .i64 0]) ∧ w.heap.size ≤ g2 ∧ OwnN (fun x => x ≠ g2 ∧ (B < w.heap.size → x ≠ B) ∧ x < w'.heap.size) w' bs2 g2 N N ms ∧ Below w.heap.size w w' := by
  have h := renew_yesS (fun x => x ≠ B ∧ x < w.heap.size) d A n c ns q (leafN b) j w (fun _ h => h.2) (fun ad e j q hj hat => (hF ad e j q hj hat).and (hN.farB (Below.refl _ _) ad e j q hj hat)) (hf.and hq.far) hN hq hT hr (leafN_right b) hj
  rw [hN2, hms] at h
  refine h.mono ?_
  rintro e w' ⟨g2, he, ⟨bs, ho⟩, hg, hb⟩
  refine ⟨g2, bs, he, hg, ?_, hb⟩
  exact (ho.near).mono (fun x hx => ⟨(by have h1 := hx.1.2; omega), fun _ => hx.1.1, hx.2⟩) (fun x hx => hx.1)
/-- the rest of a walk, once for all ways through a piece of code that ends in the ordinary way -/
theorem wp_cut {P : Program} {c : Code} {Q : Exit → Act → World → Prop} {a : Act} {w : World} {X : Type} (F : Act → X → Act) (R : X → World → Prop) (h : c.wp P (norm fun a' W => ∃ x, a' = F a x ∧ R x W) a w) (k : ∀ x W, R x W → Q .normal (F a x) W) : c.wp P Q a w :=
  Code.wp_mono (fun e a' w' h => by
    obtain ⟨rfl, x, rfl, hR⟩ := norm_of h
    exact k x w' hR) h
end Go.Proofs.YtakglldffpnlaaaGreatDoor.Rt
