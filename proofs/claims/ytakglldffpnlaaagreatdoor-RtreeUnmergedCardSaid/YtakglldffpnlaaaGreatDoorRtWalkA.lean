/- Walks: leaves, nodes, isSigner, hasKey, isRightBlank, isRightLeaf, isRightNode. -/
import Derived.Test.YtakglldffpnlaaaGreatDoorRtStandsP
import Derived.Test.YtakglldffpnlaaaGreatDoorWrM1
namespace Go.Proofs.YtakglldffpnlaaaGreatDoor.Rt
set_option linter.all false
open Go.RowKit

/-- how a node lies: its number, and five slices -/
abbrev ndc (k : Int) (A1 : Option Addr) (n1 c1 : Nat) (A2 : Option Addr) (n2 c2 : Nat) (A3 : Option Addr) (n3 c3 : Nat) (A4 : Option Addr) (n4 c4 : Nat) (A5 : Option Addr) (n5 c5 : Nat) : Array Value :=
  #[.int .i64 k, .slice A1 n1 c1, .slice A2 n2 c2, .slice A3 n3 c3, .slice A4 n4 c4, .slice A5 n5 c5]
theorem below_one (w : World) (o : Obj) : Below w.heap.size w (w.alloc o) := (Below.refl _ _).alloc (Nat.le_refl _) o

section
variable (k : Int) (A1 : Option Addr) (n1 c1 : Nat) (A2 : Option Addr) (n2 c2 : Nat) (A3 : Option Addr) (n3 c3 : Nat) (A4 : Option Addr) (n4 c4 : Nat) (A5 : Option Addr) (n5 c5 : Nat) (b : Bool) (w : World)
/-- a node in a block of its own -/
def NdB (w : World) (g : Nat) : Prop := w.heap[g]? = some (.cells (ndc k A1 n1 c1 A2 n2 c2 A3 n3 c3 A4 n4 c4 A5 n5 c5) 28 (0, 0))
variable {k A1 n1 c1 A2 n2 c2 A3 n3 c3 A4 n4 c4 A5 n5 c5 w}
theorem NdB.cs {g : Nat} (h : NdB k A1 n1 c1 A2 n2 c2 A3 n3 c3 A4 n4 c4 A5 n5 c5 w g) : w.cell? ⟨g, 0, none⟩ = some (.int .i64 k) ∧ w.cell? ⟨g, 1, none⟩ = some (.slice A1 n1 c1) ∧ w.cell? ⟨g, 2, none⟩ = some (.slice A2 n2 c2) ∧
    w.cell? ⟨g, 3, none⟩ = some (.slice A3 n3 c3) ∧ w.cell? ⟨g, 4, none⟩ = some (.slice A4 n4 c4) ∧ w.cell? ⟨g, 5, none⟩ = some (.slice A5 n5 c5) :=
  ⟨cell_of_row w g 0 _ _ _ h, cell_of_row w g 1 _ _ _ h, cell_of_row w g 2 _ _ _ h, cell_of_row w g 3 _ _ _ h, cell_of_row w g 4 _ _ _ h, cell_of_row w g 5 _ _ _ h⟩
theorem NdB.below {g B : Nat} {w' : World} (h : NdB k A1 n1 c1 A2 n2 c2 A3 n3 c3 A4 n4 c4 A5 n5 c5 w g) (hb : Below B w w') (hg : g < B) : NdB k A1 n1 c1 A2 n2 c2 A3 n3 c3 A4 n4 c4 A5 n5 c5 w' g := (hb.block g hg).trans h
theorem NdB.new (w : World) : NdB k A1 n1 c1 A2 n2 c2 A3 n3 c3 A4 n4 c4 A5 n5 c5 (w.alloc (.cells (ndc k A1 n1 c1 A2 n2 c2 A3 n3 c3 A4 n4 c4 A5 n5 c5) 28)) w.heap.size := heap_alloc_last w _
variable (k A1 n1 c1 A2 n2 c2 A3 n3 c3 A4 n4 c4 A5 n5 c5 w)
def keyF (n1 n4 : Nat) : Bool := decide (n1 = 1184) && (decide (n4 = 0) || decide (n4 = 32))
def signerF (n2 n3 : Nat) : Bool := decide (0 < n2) || decide (0 < n3)
def blankF (k : Int) (n1 n2 n3 n4 n5 : Nat) : Bool := decide (k = 0) && (decide (n1 = 0) && (!signerF n2 n3 && (decide (n4 = 0) && decide (n5 = 0))))
def leafF (k : Int) (n1 n2 n3 n4 n5 : Nat) : Bool := decide (k = 1) && (keyF n1 n4 && (decide (n2 = 1952) && ((decide (1 ≤ n3) && decide (n3 ≤ 16)) && decide (n5 = 0))))
def nodeF (k : Int) (n1 n2 n3 n4 : Nat) : Bool := decide (k = 2) && (keyF n1 n4 && !signerF n2 n3)

set_option maxHeartbeats 1000000 in
theorem signer_is (hb : signerF n2 n3 = b) :
    Calls Tryz.prog 97 #[.agg (ndc k A1 n1 c1 A2 n2 c2 A3 n3 c3 A4 n4 c4 A5 n5 c5)] w fun e w' => e = .returned (.bool b) ∧ Below w.heap.size w w' := by
  unfold signerF at hb
  by_cases h : 0 < n2
  · have yn2 : (n2 : Int) > 0 := by omega
    try simp [h] at hb
    subst hb
    go_enter Tryz.func97, Tryz.ntmps97
    go_wp2
    go_ret
    exact ⟨rfl, below_one _ _⟩
  · obtain rfl : n2 = 0 := by omega
    by_cases h : 0 < n3
    · have yn3 : (n3 : Int) > 0 := by omega
      try simp [h] at hb
      subst hb
      go_enter Tryz.func97, Tryz.ntmps97
      go_wp2
      go_ret
      exact ⟨rfl, below_one _ _⟩
    · obtain rfl : n3 = 0 := by omega
      simp at hb; subst hb
      go_enter Tryz.func97, Tryz.ntmps97
      go_wp2
      go_ret
      exact ⟨rfl, below_one _ _⟩
set_option maxHeartbeats 1000000 in
theorem key_is (hb : keyF n1 n4 = b) :
    Calls Tryz.prog 59 #[.agg (ndc k A1 n1 c1 A2 n2 c2 A3 n3 c3 A4 n4 c4 A5 n5 c5)] w fun e w' => e = .returned (.bool b) ∧ Below w.heap.size w w' := by
  unfold keyF at hb
  by_cases h : n1 = 1184
  · obtain rfl : n1 = 1184 := h
    by_cases h : n4 = 0
    · obtain rfl : n4 = 0 := h
      simp at hb; subst hb
      go_enter Tryz.func59, Tryz.ntmps59
      go_wp2
      go_ret
      exact ⟨rfl, below_one _ _⟩
    · have y4 : ((n4 : Int) == 0) = false := by simp; omega
      try simp [h] at hb
      by_cases h : n4 = 32
      · obtain rfl : n4 = 32 := h
        simp at hb; subst hb
        go_enter Tryz.func59, Tryz.ntmps59
        go_wp2
        go_ret
        exact ⟨rfl, below_one _ _⟩
      · have y5 : ((n4 : Int) == 32) = false := by simp; omega
        try simp [h] at hb
        subst hb
        go_enter Tryz.func59, Tryz.ntmps59
        go_wp2
        go_ret
        exact ⟨rfl, below_one _ _⟩
  · have yn1 : ((n1 : Int) == 1184) = false := by simp; omega
    try simp [h] at hb
    subst hb
    go_enter Tryz.func59, Tryz.ntmps59
    go_wp2
    go_ret
    exact ⟨rfl, below_one _ _⟩
set_option maxHeartbeats 1000000 in
theorem blank_is (hb : blankF k n1 n2 n3 n4 n5 = b) :
    Calls Tryz.prog 70 #[.agg (ndc k A1 n1 c1 A2 n2 c2 A3 n3 c3 A4 n4 c4 A5 n5 c5)] w fun e w' => e = .returned (.bool b) ∧ Below w.heap.size w w' := by
  unfold blankF at hb
  by_cases h : k = 0
  · obtain rfl : k = 0 := h
    by_cases h : n1 = 0
    · obtain rfl : n1 = 0 := h
      by_cases h : signerF n2 n3 = true
      · have HS := Lib.hid fun w => signer_is 0 A1 0 c1 A2 n2 c2 A3 n3 c3 A4 n4 c4 A5 n5 c5 true w h
        try simp [h] at hb
        subst hb
        go_enter Tryz.func70, Tryz.ntmps70
        go_wp2_with (first
          | (go_at_call 97; refine (HS.out _).mono ?_; rintro e' w1 ⟨rfl, hb1⟩; have HB := Lib.hid ((below_one w _).trans (hb1.mono (by simp))); obtain ⟨q0, q1, q2, q3, q4, q5⟩ := ((NdB.new w).below hb1 (by simp)).cs; clear hb1)
          | go_in)
        go_ret
        exact ⟨rfl, HB.out⟩
      · rw [Bool.not_eq_true] at h
        have HS := Lib.hid fun w => signer_is 0 A1 0 c1 A2 n2 c2 A3 n3 c3 A4 n4 c4 A5 n5 c5 false w h
        try simp [h] at hb
        by_cases h : n4 = 0
        · obtain rfl : n4 = 0 := h
          by_cases h : n5 = 0
          · obtain rfl : n5 = 0 := h
            simp at hb; subst hb
            go_enter Tryz.func70, Tryz.ntmps70
            go_wp2_with (first
              | (go_at_call 97; refine (HS.out _).mono ?_; rintro e' w1 ⟨rfl, hb1⟩; have HB := Lib.hid ((below_one w _).trans (hb1.mono (by simp))); obtain ⟨q0, q1, q2, q3, q4, q5⟩ := ((NdB.new w).below hb1 (by simp)).cs; clear hb1)
              | go_in)
            go_ret
            exact ⟨rfl, HB.out⟩
          · have yn5 : ((n5 : Int) == 0) = false := by simp; omega
            try simp [h] at hb
            subst hb
            go_enter Tryz.func70, Tryz.ntmps70
            go_wp2_with (first
              | (go_at_call 97; refine (HS.out _).mono ?_; rintro e' w1 ⟨rfl, hb1⟩; have HB := Lib.hid ((below_one w _).trans (hb1.mono (by simp))); obtain ⟨q0, q1, q2, q3, q4, q5⟩ := ((NdB.new w).below hb1 (by simp)).cs; clear hb1)
              | go_in)
            go_ret
            exact ⟨rfl, HB.out⟩
        · have yn4 : ((n4 : Int) == 0) = false := by simp; omega
          try simp [h] at hb
          subst hb
          go_enter Tryz.func70, Tryz.ntmps70
          go_wp2_with (first
            | (go_at_call 97; refine (HS.out _).mono ?_; rintro e' w1 ⟨rfl, hb1⟩; have HB := Lib.hid ((below_one w _).trans (hb1.mono (by simp))); obtain ⟨q0, q1, q2, q3, q4, q5⟩ := ((NdB.new w).below hb1 (by simp)).cs; clear hb1)
            | go_in)
          go_ret
          exact ⟨rfl, HB.out⟩
    · have yn1 : ((n1 : Int) == 0) = false := by simp; omega
      try simp [h] at hb
      subst hb
      go_enter Tryz.func70, Tryz.ntmps70
      go_wp2
      go_ret
      exact ⟨rfl, below_one _ _⟩
  · have yk : ((k : Int) == 0) = false := by simp; omega
    try simp [h] at hb
    subst hb
    go_enter Tryz.func70, Tryz.ntmps70
    go_wp2
    go_ret
    exact ⟨rfl, below_one _ _⟩
set_option maxHeartbeats 1000000 in
theorem node_is (hb : nodeF k n1 n2 n3 n4 = b) :
    Calls Tryz.prog 71 #[.agg (ndc k A1 n1 c1 A2 n2 c2 A3 n3 c3 A4 n4 c4 A5 n5 c5)] w fun e w' => e = .returned (.bool b) ∧ Below w.heap.size w w' := by
  unfold nodeF at hb
  by_cases h : k = 2
  · obtain rfl : k = 2 := h
    by_cases h : keyF n1 n4 = true
    · have HK := Lib.hid fun w => key_is 2 A1 n1 c1 A2 n2 c2 A3 n3 c3 A4 n4 c4 A5 n5 c5 true w h
      try simp [h] at hb
      by_cases h : signerF n2 n3 = true
      · have HS := Lib.hid fun w => signer_is 2 A1 n1 c1 A2 n2 c2 A3 n3 c3 A4 n4 c4 A5 n5 c5 true w h
        try simp [h] at hb
        subst hb
        go_enter Tryz.func71, Tryz.ntmps71
        go_wp2_with (first
          | (go_at_call 59; refine (HK.out _).mono ?_; rintro e' w1 ⟨rfl, hb1⟩; have HB := Lib.hid ((below_one w _).trans (hb1.mono (by simp))); have hN := (NdB.new w).below hb1 (by simp); have HN := Lib.hid hN; obtain ⟨q0, q1, q2, q3, q4, q5⟩ := hN.cs; have hsz := HB.out.size; clear hb1 hN)
          | (go_at_call 97; refine (HS.out _).mono ?_; rintro e' w2 ⟨rfl, hb1⟩; have HB2 := Lib.hid (HB.out.trans (hb1.mono hsz)); clear hb1)
          | go_in)
        go_ret
        exact ⟨rfl, HB2.out⟩
      · rw [Bool.not_eq_true] at h
        have HS := Lib.hid fun w => signer_is 2 A1 n1 c1 A2 n2 c2 A3 n3 c3 A4 n4 c4 A5 n5 c5 false w h
        try simp [h] at hb
        subst hb
        go_enter Tryz.func71, Tryz.ntmps71
        go_wp2_with (first
          | (go_at_call 59; refine (HK.out _).mono ?_; rintro e' w1 ⟨rfl, hb1⟩; have HB := Lib.hid ((below_one w _).trans (hb1.mono (by simp))); have hN := (NdB.new w).below hb1 (by simp); have HN := Lib.hid hN; obtain ⟨q0, q1, q2, q3, q4, q5⟩ := hN.cs; have hsz := HB.out.size; clear hb1 hN)
          | (go_at_call 97; refine (HS.out _).mono ?_; rintro e' w2 ⟨rfl, hb1⟩; have HB2 := Lib.hid (HB.out.trans (hb1.mono hsz)); clear hb1)
          | go_in)
        go_ret
        exact ⟨rfl, HB2.out⟩
    · rw [Bool.not_eq_true] at h
      have HK := Lib.hid fun w => key_is 2 A1 n1 c1 A2 n2 c2 A3 n3 c3 A4 n4 c4 A5 n5 c5 false w h
      try simp [h] at hb
      subst hb
      go_enter Tryz.func71, Tryz.ntmps71
      go_wp2_with (first
        | (go_at_call 59; refine (HK.out _).mono ?_; rintro e' w1 ⟨rfl, hb1⟩; have HB := Lib.hid ((below_one w _).trans (hb1.mono (by simp))); have hN := (NdB.new w).below hb1 (by simp); have HN := Lib.hid hN; obtain ⟨q0, q1, q2, q3, q4, q5⟩ := hN.cs; have hsz := HB.out.size; clear hb1 hN)
        | go_in)
      go_ret
      exact ⟨rfl, HB.out⟩
  · have yk : ((k : Int) == 2) = false := by simp; omega
    try simp [h] at hb
    subst hb
    go_enter Tryz.func71, Tryz.ntmps71
    go_wp2
    go_ret
    exact ⟨rfl, below_one _ _⟩
set_option maxHeartbeats 1000000 in
theorem leaf_is (hb : leafF k n1 n2 n3 n4 n5 = b) :
    Calls Tryz.prog 29 #[.agg (ndc k A1 n1 c1 A2 n2 c2 A3 n3 c3 A4 n4 c4 A5 n5 c5)] w fun e w' => e = .returned (.bool b) ∧ Below w.heap.size w w' := by
  unfold leafF at hb
  by_cases ha : 1 ≤ n3 ∧ n3 ≤ 16
  · have ya : (n3 : Int) ≥ 1 := by omega
    have yb : (n3 : Int) ≤ 16 := by omega
    rw [decide_eq_true ha.1, decide_eq_true ha.2] at hb; clear ha
    by_cases h : k = 1
    · obtain rfl : k = 1 := h
      by_cases h : keyF n1 n4 = true
      · have HK := Lib.hid fun w => key_is 1 A1 n1 c1 A2 n2 c2 A3 n3 c3 A4 n4 c4 A5 n5 c5 true w h
        try simp [h] at hb
        by_cases h : n2 = 1952
        · obtain rfl : n2 = 1952 := h
          by_cases h : n5 = 0
          · obtain rfl : n5 = 0 := h
            simp at hb; subst hb
            go_enter Tryz.func29, Tryz.ntmps29
            go_wp2_with (first
              | (go_at_call 59; refine (HK.out _).mono ?_; rintro e' w1 ⟨rfl, hb1⟩; have HB := Lib.hid ((below_one w _).trans (hb1.mono (by simp))); have hN := (NdB.new w).below hb1 (by simp); have HN := Lib.hid hN; obtain ⟨q0, q1, q2, q3, q4, q5⟩ := hN.cs; have hsz := HB.out.size; clear hb1 hN)
              | go_in)
            go_ret
            exact ⟨rfl, HB.out⟩
          · have yn5 : ((n5 : Int) == 0) = false := by simp; omega
            try simp [h] at hb
            subst hb
            go_enter Tryz.func29, Tryz.ntmps29
            go_wp2_with (first
              | (go_at_call 59; refine (HK.out _).mono ?_; rintro e' w1 ⟨rfl, hb1⟩; have HB := Lib.hid ((below_one w _).trans (hb1.mono (by simp))); have hN := (NdB.new w).below hb1 (by simp); have HN := Lib.hid hN; obtain ⟨q0, q1, q2, q3, q4, q5⟩ := hN.cs; have hsz := HB.out.size; clear hb1 hN)
              | go_in)
            go_ret
            exact ⟨rfl, HB.out⟩
        · have yn2 : ((n2 : Int) == 1952) = false := by simp; omega
          try simp [h] at hb
          subst hb
          go_enter Tryz.func29, Tryz.ntmps29
          go_wp2_with (first
            | (go_at_call 59; refine (HK.out _).mono ?_; rintro e' w1 ⟨rfl, hb1⟩; have HB := Lib.hid ((below_one w _).trans (hb1.mono (by simp))); have hN := (NdB.new w).below hb1 (by simp); have HN := Lib.hid hN; obtain ⟨q0, q1, q2, q3, q4, q5⟩ := hN.cs; have hsz := HB.out.size; clear hb1 hN)
            | go_in)
          go_ret
          exact ⟨rfl, HB.out⟩
      · rw [Bool.not_eq_true] at h
        have HK := Lib.hid fun w => key_is 1 A1 n1 c1 A2 n2 c2 A3 n3 c3 A4 n4 c4 A5 n5 c5 false w h
        try simp [h] at hb
        subst hb
        go_enter Tryz.func29, Tryz.ntmps29
        go_wp2_with (first
          | (go_at_call 59; refine (HK.out _).mono ?_; rintro e' w1 ⟨rfl, hb1⟩; have HB := Lib.hid ((below_one w _).trans (hb1.mono (by simp))); have hN := (NdB.new w).below hb1 (by simp); have HN := Lib.hid hN; obtain ⟨q0, q1, q2, q3, q4, q5⟩ := hN.cs; have hsz := HB.out.size; clear hb1 hN)
          | go_in)
        go_ret
        exact ⟨rfl, HB.out⟩
    · have yk : ((k : Int) == 1) = false := by simp; omega
      try simp [h] at hb
      subst hb
      go_enter Tryz.func29, Tryz.ntmps29
      go_wp2
      go_ret
      exact ⟨rfl, below_one _ _⟩
  by_cases h1 : 1 ≤ n3
  · have ya : (n3 : Int) ≥ 1 := by omega
    have yb : ¬ (n3 : Int) ≤ 16 := by omega
    rw [decide_eq_true h1, decide_eq_false (by omega : ¬ n3 ≤ 16)] at hb; clear ha h1
    by_cases h : k = 1
    · obtain rfl : k = 1 := h
      by_cases h : keyF n1 n4 = true
      · have HK := Lib.hid fun w => key_is 1 A1 n1 c1 A2 n2 c2 A3 n3 c3 A4 n4 c4 A5 n5 c5 true w h
        try simp [h] at hb
        by_cases h : n2 = 1952
        · obtain rfl : n2 = 1952 := h
          try subst hb
          try (simp at hb; subst hb)
          go_enter Tryz.func29, Tryz.ntmps29
          go_wp2_with (first
            | (go_at_call 59; refine (HK.out _).mono ?_; rintro e' w1 ⟨rfl, hb1⟩; have HB := Lib.hid ((below_one w _).trans (hb1.mono (by simp))); have hN := (NdB.new w).below hb1 (by simp); have HN := Lib.hid hN; obtain ⟨q0, q1, q2, q3, q4, q5⟩ := hN.cs; have hsz := HB.out.size; clear hb1 hN)
            | go_in)
          go_ret
          exact ⟨rfl, HB.out⟩
        · have yn2 : ((n2 : Int) == 1952) = false := by simp; omega
          try simp [h] at hb
          try subst hb
          try (simp at hb; subst hb)
          go_enter Tryz.func29, Tryz.ntmps29
          go_wp2_with (first
            | (go_at_call 59; refine (HK.out _).mono ?_; rintro e' w1 ⟨rfl, hb1⟩; have HB := Lib.hid ((below_one w _).trans (hb1.mono (by simp))); have hN := (NdB.new w).below hb1 (by simp); have HN := Lib.hid hN; obtain ⟨q0, q1, q2, q3, q4, q5⟩ := hN.cs; have hsz := HB.out.size; clear hb1 hN)
            | go_in)
          go_ret
          exact ⟨rfl, HB.out⟩
      · rw [Bool.not_eq_true] at h
        have HK := Lib.hid fun w => key_is 1 A1 n1 c1 A2 n2 c2 A3 n3 c3 A4 n4 c4 A5 n5 c5 false w h
        try simp [h] at hb
        try subst hb
        try (simp at hb; subst hb)
        go_enter Tryz.func29, Tryz.ntmps29
        go_wp2_with (first
          | (go_at_call 59; refine (HK.out _).mono ?_; rintro e' w1 ⟨rfl, hb1⟩; have HB := Lib.hid ((below_one w _).trans (hb1.mono (by simp))); have hN := (NdB.new w).below hb1 (by simp); have HN := Lib.hid hN; obtain ⟨q0, q1, q2, q3, q4, q5⟩ := hN.cs; have hsz := HB.out.size; clear hb1 hN)
          | go_in)
        go_ret
        exact ⟨rfl, HB.out⟩
    · have yk : ((k : Int) == 1) = false := by simp; omega
      try simp [h] at hb
      try subst hb
      try (simp at hb; subst hb)
      go_enter Tryz.func29, Tryz.ntmps29
      go_wp2
      go_ret
      exact ⟨rfl, below_one _ _⟩
  · have ya : ¬ (n3 : Int) ≥ 1 := by omega
    rw [decide_eq_false h1] at hb; clear ha h1
    by_cases h : k = 1
    · obtain rfl : k = 1 := h
      by_cases h : keyF n1 n4 = true
      · have HK := Lib.hid fun w => key_is 1 A1 n1 c1 A2 n2 c2 A3 n3 c3 A4 n4 c4 A5 n5 c5 true w h
        try simp [h] at hb
        by_cases h : n2 = 1952
        · obtain rfl : n2 = 1952 := h
          try subst hb
          try (simp at hb; subst hb)
          go_enter Tryz.func29, Tryz.ntmps29
          go_wp2_with (first
            | (go_at_call 59; refine (HK.out _).mono ?_; rintro e' w1 ⟨rfl, hb1⟩; have HB := Lib.hid ((below_one w _).trans (hb1.mono (by simp))); have hN := (NdB.new w).below hb1 (by simp); have HN := Lib.hid hN; obtain ⟨q0, q1, q2, q3, q4, q5⟩ := hN.cs; have hsz := HB.out.size; clear hb1 hN)
            | go_in)
          go_ret
          exact ⟨rfl, HB.out⟩
        · have yn2 : ((n2 : Int) == 1952) = false := by simp; omega
          try simp [h] at hb
          try subst hb
          try (simp at hb; subst hb)
          go_enter Tryz.func29, Tryz.ntmps29
          go_wp2_with (first
            | (go_at_call 59; refine (HK.out _).mono ?_; rintro e' w1 ⟨rfl, hb1⟩; have HB := Lib.hid ((below_one w _).trans (hb1.mono (by simp))); have hN := (NdB.new w).below hb1 (by simp); have HN := Lib.hid hN; obtain ⟨q0, q1, q2, q3, q4, q5⟩ := hN.cs; have hsz := HB.out.size; clear hb1 hN)
            | go_in)
          go_ret
          exact ⟨rfl, HB.out⟩
      · rw [Bool.not_eq_true] at h
        have HK := Lib.hid fun w => key_is 1 A1 n1 c1 A2 n2 c2 A3 n3 c3 A4 n4 c4 A5 n5 c5 false w h
        try simp [h] at hb
        try subst hb
        try (simp at hb; subst hb)
        go_enter Tryz.func29, Tryz.ntmps29
        go_wp2_with (first
          | (go_at_call 59; refine (HK.out _).mono ?_; rintro e' w1 ⟨rfl, hb1⟩; have HB := Lib.hid ((below_one w _).trans (hb1.mono (by simp))); have hN := (NdB.new w).below hb1 (by simp); have HN := Lib.hid hN; obtain ⟨q0, q1, q2, q3, q4, q5⟩ := hN.cs; have hsz := HB.out.size; clear hb1 hN)
          | go_in)
        go_ret
        exact ⟨rfl, HB.out⟩
    · have yk : ((k : Int) == 1) = false := by simp; omega
      try simp [h] at hb
      try subst hb
      try (simp at hb; subst hb)
      go_enter Tryz.func29, Tryz.ntmps29
      go_wp2
      go_ret
      exact ⟨rfl, below_one _ _⟩
end

theorem leaves_is (d : Nat) (w : World) (h : d ≤ 16) : Calls Tryz.prog 31 #[.int .i64 (d : Int)] w fun e w' => e = .returned (.int .i64 ((2 ^ d : Nat) : Int)) ∧ w = w' := by
  have h1 : (1 : Int) * 2 ^ d = ((2 ^ d : Nat) : Int) := by rw [Int.one_mul, Int.natCast_pow]; rfl
  have h2 : 2 ^ d ≤ 65536 := Nat.pow_le_pow_right (by decide) (show d ≤ 16 from h)
  obtain ⟨m, hm⟩ : ∃ m, 2 ^ d = m := ⟨_, rfl⟩
  rw [hm] at h1 h2 ⊢
  have h3 : (2 : Int) ^ d = (m : Int) := by rw [← h1, Int.one_mul]
  have h4 : IntKind.i64.wrap (m : Int) = m := by rw [IntKind.wrap_i64]; omega
  clear hm h1
  go_enter Tryz.func31, Tryz.ntmps31
  go_wp2
  go_ret
  exact ⟨rfl, rfl⟩
theorem nodes_is (d : Nat) (w : World) (h : d ≤ 16) : Calls Tryz.prog 46 #[.int .i64 (d : Int)] w fun e w' => e = .returned (.int .i64 ((2 ^ (d + 1) - 1 : Nat) : Int)) ∧ w = w' := by
  have H := Lib.hid (leaves_is d w h)
  have h2 : 2 ^ d ≤ 65536 := Nat.pow_le_pow_right (by decide) (show d ≤ 16 from h)
  have h0 : 1 ≤ 2 ^ d := Nat.two_pow_pos d
  obtain ⟨m, hm⟩ : ∃ m, 2 ^ d = m := ⟨_, rfl⟩
  obtain ⟨q, hq⟩ : ∃ q : Nat, 2 ^ (d + 1) - 1 = q := ⟨_, rfl⟩
  have e1 : 2 * (m : Int) - 1 = (q : Int) := by have := Nat.pow_succ (n := 2) (m := d); omega
  rw [hm] at H h2 h0
  rw [hq]
  clear hm hq
  go_enter Tryz.func46, Tryz.ntmps46
  go_wp2_with (first | (go_at_call 31; refine H.out.mono ?_; rintro e' w' ⟨rfl, rfl⟩) | go_in)
  go_ret
  exact ⟨rfl, rfl⟩
end Go.Proofs.YtakglldffpnlaaaGreatDoor.Rt
