/- Walks: the document's LeafRight, nodeRight and Right. Written by tools/mk_rtrefr.py. -/
import Derived.Test.YtakglldffpnlaaaGreatDoorRtRefA
import Derived.Test.YtakglldffpnlaaaGreatDoorRtWalkD
import Derived.Deep.DrawnRows
namespace Go.Proofs.YtakglldffpnlaaaGreatDoor.Rt
set_option linter.all false
open Go.RowKit
open Wr (Txt Any New)

section
variable {k : Int} {A1 : Option Addr} {n1 c1 : Nat} {A2 : Option Addr} {n2 c2 : Nat} {A3 : Option Addr} {n3 c3 : Nat} {A4 : Option Addr} {n4 c4 : Nat} {A5 : Option Addr} {n5 c5 : Nat} {b : Bool} (w : World)
set_option maxHeartbeats 4000000 in
theorem refLeaf_is (hb : leafF k n1 n2 n3 n4 n5 = b) :
    Calls Tryz.prog 35 #[.agg (ndc k A1 n1 c1 A2 n2 c2 A3 n3 c3 A4 n4 c4 A5 n5 c5)] w fun e w' => e = .returned (.bool b) ∧ Below w.heap.size w w' := by
  unfold leafF keyF at hb
  by_cases h : k = 1
  · obtain rfl : k = 1 := h
    by_cases h : n1 = 1184
    · obtain rfl : n1 = 1184 := h
      by_cases h : n2 = 1952
      · obtain rfl : n2 = 1952 := h
        by_cases h : 1 ≤ n3
        · have ya : (n3 : Int) ≥ 1 := by omega
          rw [decide_eq_true h] at hb
          by_cases h' : n3 ≤ 16
          · have yb : (n3 : Int) ≤ 16 := by omega
            rw [decide_eq_true h'] at hb
            by_cases h4 : n4 = 0
            · obtain rfl : n4 = 0 := h4
              by_cases h : n5 = 0
              · obtain rfl : n5 = 0 := h
                simp at hb
                try subst hb
                go_enter Tryz.func35, Tryz.ntmps35
                go_wp2
                go_ret
                exact ⟨rfl, below_one _ _⟩
              · have yn5 : ((n5 : Int) == 0) = false := by simp; omega
                try simp [*] at hb
                try subst hb
                go_enter Tryz.func35, Tryz.ntmps35
                go_wp2
                go_ret
                exact ⟨rfl, below_one _ _⟩
            have y40 : ((n4 : Int) == 0) = false := by simp; omega
            by_cases h5 : n4 = 32
            · obtain rfl : n4 = 32 := h5
              clear h4 y40
              by_cases h : n5 = 0
              · obtain rfl : n5 = 0 := h
                simp at hb
                try subst hb
                go_enter Tryz.func35, Tryz.ntmps35
                go_wp2
                go_ret
                exact ⟨rfl, below_one _ _⟩
              · have yn5 : ((n5 : Int) == 0) = false := by simp; omega
                try simp [*] at hb
                try subst hb
                go_enter Tryz.func35, Tryz.ntmps35
                go_wp2
                go_ret
                exact ⟨rfl, below_one _ _⟩
            have y32 : ((n4 : Int) == 32) = false := by simp; omega
            try simp [*] at hb
            try subst hb
            go_enter Tryz.func35, Tryz.ntmps35
            go_wp2
            go_ret
            exact ⟨rfl, below_one _ _⟩
          · have yb : ¬ (n3 : Int) ≤ 16 := by omega
            rw [decide_eq_false h'] at hb
            try simp [*] at hb
            try subst hb
            go_enter Tryz.func35, Tryz.ntmps35
            go_wp2
            go_ret
            exact ⟨rfl, below_one _ _⟩
        · have ya : ¬ (n3 : Int) ≥ 1 := by omega
          rw [decide_eq_false h] at hb
          try simp [*] at hb
          try subst hb
          go_enter Tryz.func35, Tryz.ntmps35
          go_wp2
          go_ret
          exact ⟨rfl, below_one _ _⟩
      · have yn2 : ((n2 : Int) == 1952) = false := by simp; omega
        try simp [*] at hb
        try subst hb
        go_enter Tryz.func35, Tryz.ntmps35
        go_wp2
        go_ret
        exact ⟨rfl, below_one _ _⟩
    · have yn1 : ((n1 : Int) == 1184) = false := by simp; omega
      try simp [*] at hb
      try subst hb
      go_enter Tryz.func35, Tryz.ntmps35
      go_wp2
      go_ret
      exact ⟨rfl, below_one _ _⟩
  · have yk : (k == 1) = false := by simp [h]
    try simp [*] at hb
    try subst hb
    go_enter Tryz.func35, Tryz.ntmps35
    go_wp2
    go_ret
    exact ⟨rfl, below_one _ _⟩
end
end Go.Proofs.YtakglldffpnlaaaGreatDoor.Rt
