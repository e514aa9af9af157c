/- The document's own: Open. Written by tools/mk_bxropen.py. -/
import Derived.Test.YtfhibjpkbbbfpaaDoorBxRefB
namespace Go.Proofs.YtfhibjpkbbbfpaaDoor.Bx
set_option linter.all false
open Go.RowKit Wr

theorem run_tail (ad : Addr) (n c p : Nat) (hp : p < c) (hpn : p ≤ n) (w : World) :
    (Instr.slice 22 (.slice (some ad) n c) (some (.int .i64 (p : Int))) none none).run Tryd.prog w = .ok (.slice (some (ad.add p)) (n - p) (c - p)) w := by
  have h1 : Tryd.prog.underlying 22 = some (.slice (Tryd.prog.elem 22)) := by kernel_rfl
  have h3 : Tryd.prog.elem 22 = 5 := by kernel_rfl
  have h4 : (Tryd.prog.info? 5).map (·.size) = some 1 := by kernel_rfl
  cases hq' : Tryd.prog.info? 5 with
  | none => simp [hq'] at h4
  | some i =>
    have hs1 : i.size = 1 := by simpa [hq'] using h4
    rw [run_slice_l (a := some ad) (len := n) (cap := c) (w := w) (t := 22) (ht := h1) .i64 (p : Int) (by omega) (by omega), h3]
    have e3 : ¬ c = p := by omega
    simp [sizeOf, typeInfo, hq', hs1, sliced, e3]
theorem cut_drop (b : List Nat) (p : Nat) (n : Nat) (h : b.length = n) : cut b p n = b.drop p := by
  unfold cut
  exact List.take_of_length_le (by rw [List.length_drop]; omega)
/-- what Open tells of bytes that are long enough, with a key of thirty-two -/
def openP (key ahead closed : List Nat) : List Nat × Nat :=
  if tg (kT key) ahead (closed.take (closed.length - 32)) = closed.drop (closed.length - 32) then (hide (kS key) (closed.take (closed.length - 32)), 0) else ([], 121)

set_option maxHeartbeats 2000000 in
set_option maxRecDepth 100000 in
theorem ropen_bad (K A D : Option Addr) (nk ck na ca L cd : Nat) (w : World) (h : ¬ nk = 32 ∨ 32768 < na ∨ 32800 < L ∨ L < 32) :
    Calls Tryd.prog 12 #[.slice K nk ck, .slice A na ca, .slice D L cd] w fun e w' => e = .returned (.tuple #[.slice none 0 0, .int .i64 (if nk = 32 then if 32768 < na ∨ 32800 < L then 2 else 121 else 1)]) ∧ Below w.heap.size w w' := by
  by_cases h1 : nk = 32
  · subst h1
    by_cases h2 : 32768 < na
    · have y2 : (32768 : Int) < (na : Int) := by omega
      rw [if_pos rfl, if_pos (.inl h2)]
      go_enter Tryd.func12, Tryd.ntmps12
      go_wp2
      go_ret2
      exact ⟨rfl, Below.refl _ _⟩
    · have y2 : ¬ (32768 : Int) < (na : Int) := by omega
      by_cases h3 : 32800 < L
      · have y3 : (32800 : Int) < (L : Int) := by omega
        rw [if_pos rfl, if_pos (.inr h3)]
        go_enter Tryd.func12, Tryd.ntmps12
        go_wp2
        go_ret2
        exact ⟨rfl, Below.refl _ _⟩
      · have y3 : ¬ (32800 : Int) < (L : Int) := by omega
        rw [if_pos rfl, if_neg (by omega)]
        have hL : L < 32 := by omega
        obtain ⟨z, hz, hz0⟩ : ∃ z : Int, (L : Int) - 32 = z ∧ z < 0 := ⟨_, rfl, by omega⟩
        have hw : IntKind.i64.wrap z = z := by rw [IntKind.wrap_i64]; omega
        clear h h2 h3 hL
        go_enter Tryd.func12, Tryd.ntmps12
        go_wp2
        refine region_calm ?_
        refine wp_region_any (by kernel_rfl) ?_
        change wpAny _ _ _ _ _ _ _ (World.drew _)
        refine wpAny_of_held (S := fun _ => True) _ _ _ _ ?_
        refine wpAnyH_take (i := 0) (v := ?v0) rfl (by kernel_rfl) (by kernel_rfl) (by kernel_rfl) (fun _ _ _ h => h) (Or.inl ⟨by rfl, ?y0⟩) trivial ?r0
        case y0 => (intro w' hSw; clear hSw; go_simp; try with_reducible rfl)
        simp only [List.getElem_toArray, List.getElem_cons_succ, List.getElem_cons_zero, Act.put, List.setIfInBounds_toArray, List.set_cons_zero, List.set_cons_succ]
        refine wpAnyH_take (i := 1) (v := ?v1) rfl (by kernel_rfl) (by kernel_rfl) (by kernel_rfl) (fun _ _ _ h => h) (Or.inl ⟨by rfl, ?y1⟩) trivial ?r1
        case y1 => (intro w' hSw; clear hSw; go_simp; try with_reducible rfl)
        simp only [List.getElem_toArray, List.getElem_cons_succ, List.getElem_cons_zero, Act.put, List.setIfInBounds_toArray, List.set_cons_zero, List.set_cons_succ]
        refine wpAnyH_take (i := 2) (v := ?v2) rfl (by kernel_rfl) (by kernel_rfl) (by kernel_rfl) (fun _ _ _ h => h) (Or.inl ⟨by rfl, ?y2⟩) trivial ?r2
        case y2 => (intro w' hSw; clear hSw; go_simp; try with_reducible rfl)
        simp only [List.getElem_toArray, List.getElem_cons_succ, List.getElem_cons_zero, Act.put, List.setIfInBounds_toArray, List.set_cons_zero, List.set_cons_succ]
        refine wpAnyH_take (i := 3) (v := undef) rfl (by kernel_rfl) (by kernel_rfl) (by kernel_rfl) (fun _ _ _ h => h) (Or.inr ⟨by rfl, rfl⟩) trivial ?r3
        simp only [List.getElem_toArray, List.getElem_cons_succ, List.getElem_cons_zero, Act.put, List.setIfInBounds_toArray, List.set_cons_zero, List.set_cons_succ]
        refine wpAnyH_take (i := 4) (v := undef) rfl (by kernel_rfl) (by kernel_rfl) (by kernel_rfl) (fun _ _ _ h => h) (Or.inr ⟨by rfl, rfl⟩) trivial ?r4
        simp only [List.getElem_toArray, List.getElem_cons_succ, List.getElem_cons_zero, Act.put, List.setIfInBounds_toArray, List.set_cons_zero, List.set_cons_succ]
        refine wpAnyH_take (i := 5) (v := undef) rfl (by kernel_rfl) (by kernel_rfl) (by kernel_rfl) (fun _ _ _ h => h) (Or.inr ⟨by rfl, rfl⟩) trivial ?r5
        simp only [List.getElem_toArray, List.getElem_cons_succ, List.getElem_cons_zero, Act.put, List.setIfInBounds_toArray, List.set_cons_zero, List.set_cons_succ]
        refine wpAnyH_take (i := 6) (v := undef) rfl (by kernel_rfl) (by kernel_rfl) (by kernel_rfl) (fun _ _ _ h => h) (Or.inr ⟨by rfl, rfl⟩) trivial ?r6
        simp only [List.getElem_toArray, List.getElem_cons_succ, List.getElem_cons_zero, Act.put, List.setIfInBounds_toArray, List.set_cons_zero, List.set_cons_succ]
        refine wpAnyH_take (i := 7) (v := undef) rfl (by kernel_rfl) (by kernel_rfl) (by kernel_rfl) (fun _ _ _ h => h) (Or.inr ⟨by rfl, rfl⟩) trivial ?r7
        simp only [List.getElem_toArray, List.getElem_cons_succ, List.getElem_cons_zero, Act.put, List.setIfInBounds_toArray, List.set_cons_zero, List.set_cons_succ]
        refine wpAnyH_take (i := 8) (v := undef) rfl (by kernel_rfl) (by kernel_rfl) (by kernel_rfl) (fun _ _ _ h => h) (Or.inr ⟨by rfl, rfl⟩) trivial ?r8
        simp only [List.getElem_toArray, List.getElem_cons_succ, List.getElem_cons_zero, Act.put, List.setIfInBounds_toArray, List.set_cons_zero, List.set_cons_succ]
        refine wpAnyH_take (i := 9) (v := undef) rfl (by kernel_rfl) (by kernel_rfl) (by kernel_rfl) (fun _ _ _ h => h) (Or.inr ⟨by rfl, rfl⟩) trivial ?r9
        simp only [List.getElem_toArray, List.getElem_cons_succ, List.getElem_cons_zero, Act.put, List.setIfInBounds_toArray, List.set_cons_zero, List.set_cons_succ]
        refine wpAnyH_take (i := 10) (v := undef) rfl (by kernel_rfl) (by kernel_rfl) (by kernel_rfl) (fun _ _ _ h => h) (Or.inr ⟨by rfl, rfl⟩) trivial ?r10
        simp only [List.getElem_toArray, List.getElem_cons_succ, List.getElem_cons_zero, Act.put, List.setIfInBounds_toArray, List.set_cons_zero, List.set_cons_succ]
        refine wpAnyH_take (i := 11) (v := undef) rfl (by kernel_rfl) (by kernel_rfl) (by kernel_rfl) (fun _ _ _ h => h) (Or.inr ⟨by rfl, rfl⟩) trivial ?r11
        simp only [List.getElem_toArray, List.getElem_cons_succ, List.getElem_cons_zero, Act.put, List.setIfInBounds_toArray, List.set_cons_zero, List.set_cons_succ]
        refine wpAnyH_take (i := 12) (v := undef) rfl (by kernel_rfl) (by kernel_rfl) (by kernel_rfl) (fun _ _ _ h => h) (Or.inr ⟨by rfl, rfl⟩) trivial ?r12
        simp only [List.getElem_toArray, List.getElem_cons_succ, List.getElem_cons_zero, Act.put, List.setIfInBounds_toArray, List.set_cons_zero, List.set_cons_succ]
        refine wpAnyH_take (i := 13) (v := undef) rfl (by kernel_rfl) (by kernel_rfl) (by kernel_rfl) (fun _ _ _ h => h) (Or.inr ⟨by rfl, rfl⟩) trivial ?r13
        simp only [List.getElem_toArray, List.getElem_cons_succ, List.getElem_cons_zero, Act.put, List.setIfInBounds_toArray, List.set_cons_zero, List.set_cons_succ]
        refine wpAnyH_take (i := 14) (v := undef) rfl (by kernel_rfl) (by kernel_rfl) (by kernel_rfl) (fun _ _ _ h => h) (Or.inr ⟨by rfl, rfl⟩) trivial ?r14
        simp only [List.getElem_toArray, List.getElem_cons_succ, List.getElem_cons_zero, Act.put, List.setIfInBounds_toArray, List.set_cons_zero, List.set_cons_succ]
        refine wpAnyH_take (i := 15) (v := undef) rfl (by kernel_rfl) (by kernel_rfl) (by kernel_rfl) (fun _ _ _ h => h) (Or.inr ⟨by rfl, rfl⟩) trivial ?r15
        simp only [List.getElem_toArray, List.getElem_cons_succ, List.getElem_cons_zero, Act.put, List.setIfInBounds_toArray, List.set_cons_zero, List.set_cons_succ]
        refine wpAnyH_take (i := 16) (v := undef) rfl (by kernel_rfl) (by kernel_rfl) (by kernel_rfl) (fun _ _ _ h => h) (Or.inr ⟨by rfl, rfl⟩) trivial ?r16
        simp only [List.getElem_toArray, List.getElem_cons_succ, List.getElem_cons_zero, Act.put, List.setIfInBounds_toArray, List.set_cons_zero, List.set_cons_succ]
        refine wpAnyH_take (i := 17) (v := ?v17) rfl (by kernel_rfl) (by kernel_rfl) (by kernel_rfl) (fun _ _ _ h => h) (Or.inl ⟨by rfl, ?y17⟩) trivial ?r17
        case y17 => (intro w' hSw; clear hSw; go_simp; try with_reducible rfl)
        simp only [List.getElem_toArray, List.getElem_cons_succ, List.getElem_cons_zero, Act.put, List.setIfInBounds_toArray, List.set_cons_zero, List.set_cons_succ]
        refine wpAnyH_done (by kernel_rfl) ?_ _
        go_wp2
        go_ret2
        exact ⟨rfl, Below.drew (Below.refl _ _)⟩
  · have y1 : ((nk : Int) != 32) = true := by rw [bne_iff_ne]; omega
    rw [if_neg h1]
    go_enter Tryd.func12, Tryd.ntmps12
    go_wp2
    go_ret2
    exact ⟨rfl, Below.refl _ _⟩

set_option maxHeartbeats 4000000 in
set_option maxRecDepth 100000 in
theorem ropen_ok (K D : Option Addr) (A : Option Addr) (key ahead closed : List Nat) (ck na ca L cd : Nat) (w : World) (h3' : 6 ≤ w.heap.size) (hK : Txt Any w K 32 ck key) (hA : Txt Any w A na ca ahead) (hD : Txt Any w D L cd closed) (hma : na ≤ 32768) (hmb : L ≤ 32800) (hL : 32 ≤ L)
    (r : List Nat × Nat) (hr : Hid (openP key ahead closed = r)) :
    Calls Tryd.prog 12 #[.slice K 32 ck, .slice A na ca, .slice D L cd] w (ToldE r w) := by
  obtain ⟨ad, rfl⟩ := hD.some (by omega)
  obtain ⟨m, hm⟩ : ∃ m, L - 32 = m := ⟨_, rfl⟩
  have hLm : m + 32 = L := by omega
  obtain ⟨x, hx⟩ : ∃ x, closed.drop m = x := ⟨_, rfl⟩
  obtain ⟨b, hb⟩ : ∃ b, closed.take m = b := ⟨_, rfl⟩
  obtain ⟨t, ht⟩ : ∃ t, tg (kT key) ahead b = t := ⟨_, rfl⟩
  have HR : Hid ((if t = x then (hide (kS key) b, 0) else ([], 121)) = r) := Lib.hid (by rw [← hr.out, ← ht, ← hx, ← hb]; unfold openP; rw [hD.len, hm])
  have hcL := hD.2.2.1
  have hc63 := hD.2.2.2.1
  have HX : Hid (Txt Any w (some (ad.add m)) 32 (cd - m) x) := Lib.hid (by have := hD.part m L (by omega) (Nat.le_refl _); rw [cut_drop _ _ _ hD.len, hx, show L - m = 32 by omega] at this; exact this)
  have HBm : Hid (Txt Any w (some ad) m cd b) := Lib.hid (by have := hD.head m (by omega); rw [hb] at this; exact this)
  have HTG := Lib.hid ht
  have HTX : Hid (∀ j, gt t j < 256) := Lib.hid (by rw [← ht]; exact tg_lt _ _ _)
  have HK := Lib.hid hK; have HA := Lib.hid hA
  have hhd := fun W => run_head (some ad) L cd m (by omega) hcL (fun e => by cases e) W
  have htl := fun W => run_tail ad L cd m (by omega) (by omega) W
  rw [show L - m = 32 by omega] at htl
  have x1 : (L : Int) - 32 = (m : Int) := by omega
  have y0 : ¬ (m : Int) < 0 := by omega
  have y2 : ¬ (32768 : Int) < (na : Int) := by omega
  have y3 : ¬ (32800 : Int) < (L : Int) := by omega
  have hwm : IntKind.i64.wrap (m : Int) = (m : Int) := by rw [IntKind.wrap_i64]; omega
  have hbeq := txt_beq HTX.out HX.out.lt
  clear hD hx hb ht hK hA hm
  go_enter Tryd.func12, Tryd.ntmps12
  go_wp2
  refine region_calm ?_
  refine wp_region_any (by kernel_rfl) ?_
  change wpAny _ _ _ _ _ _ _ (World.drew w)
  have HS0 : Hid ((convert 22 9 (.slice (some (ad.add m)) 32 (cd - m))).run Tryd.prog w.drew = .ok (.string (txt x)) w.drew) := Lib.hid HX.out.drew.conv
  refine wpAny_of_held (S := fun w' => (convert 22 9 (.slice (some (ad.add m)) 32 (cd - m))).run Tryd.prog w' = .ok (.string (txt x)) w') _ _ _ _ ?_
  refine wpAnyH_take (i := 0) (v := ?v0) rfl (by kernel_rfl) (by kernel_rfl) (by kernel_rfl) (fun _ _ _ h => h) (Or.inl ⟨by rfl, ?y0⟩) HS0.out ?r0
  case y0 => (intro w' hSw; clear hSw; go_simp; try with_reducible rfl)
  simp only [List.getElem_toArray, List.getElem_cons_succ, List.getElem_cons_zero, Act.put, List.setIfInBounds_toArray, List.set_cons_zero, List.set_cons_succ]
  refine wpAnyH_take (i := 1) (v := ?v1) rfl (by kernel_rfl) (by kernel_rfl) (by kernel_rfl) (fun _ _ _ h => h) (Or.inl ⟨by rfl, ?y1⟩) HS0.out ?r1
  case y1 => (intro w' hSw; clear hSw; go_simp; try with_reducible rfl)
  simp only [List.getElem_toArray, List.getElem_cons_succ, List.getElem_cons_zero, Act.put, List.setIfInBounds_toArray, List.set_cons_zero, List.set_cons_succ]
  refine wpAnyH_take (i := 2) (v := ?v2) rfl (by kernel_rfl) (by kernel_rfl) (by kernel_rfl) (fun _ _ _ h => h) (Or.inl ⟨by rfl, ?y2⟩) HS0.out ?r2
  case y2 => (intro w' hSw; clear hSw; go_simp; try with_reducible rfl)
  simp only [List.getElem_toArray, List.getElem_cons_succ, List.getElem_cons_zero, Act.put, List.setIfInBounds_toArray, List.set_cons_zero, List.set_cons_succ]
  refine wpAnyH_take (i := 3) (v := ?v3) rfl (by kernel_rfl) (by kernel_rfl) (by kernel_rfl) (fun _ _ _ h => h) (Or.inl ⟨by rfl, ?y3⟩) HS0.out ?r3
  case y3 => (intro w' hSw; clear hSw; go_simp; try with_reducible rfl)
  simp only [List.getElem_toArray, List.getElem_cons_succ, List.getElem_cons_zero, Act.put, List.setIfInBounds_toArray, List.set_cons_zero, List.set_cons_succ]
  refine wpAnyH_take (i := 4) (v := ?v4) rfl (by kernel_rfl) (by kernel_rfl) (by kernel_rfl) (fun _ _ _ h => h) (Or.inl ⟨by rfl, ?y4⟩) HS0.out ?r4
  case y4 => (intro w' hSw; clear hSw; go_simp; try with_reducible rfl)
  simp only [List.getElem_toArray, List.getElem_cons_succ, List.getElem_cons_zero, Act.put, List.setIfInBounds_toArray, List.set_cons_zero, List.set_cons_succ]
  refine wpAnyH_take (i := 5) (v := ?v5) rfl (by kernel_rfl) (by kernel_rfl) (by kernel_rfl) (fun _ _ _ h => h) (Or.inl ⟨by rfl, ?y5⟩) HS0.out ?r5
  case y5 => (intro w' hSw; clear hSw; go_simp; try with_reducible rfl)
  simp only [List.getElem_toArray, List.getElem_cons_succ, List.getElem_cons_zero, Act.put, List.setIfInBounds_toArray, List.set_cons_zero, List.set_cons_succ]
  refine wpAnyH_take (i := 6) (v := ?v6) rfl (by kernel_rfl) (by kernel_rfl) (by kernel_rfl) (fun _ _ _ h => h) (Or.inl ⟨by rfl, ?y6⟩) HS0.out ?r6
  case y6 => (intro w' hSw; clear hSw; go_simp; try with_reducible rfl)
  simp only [List.getElem_toArray, List.getElem_cons_succ, List.getElem_cons_zero, Act.put, List.setIfInBounds_toArray, List.set_cons_zero, List.set_cons_succ]
  refine wpAnyH_take (i := 7) (v := .int .i64 (m : Int)) rfl (by kernel_rfl) (by kernel_rfl) (by kernel_rfl) (fun _ _ _ h => h) (Or.inl ⟨by rfl, ?y7⟩) HS0.out ?r7
  case y7 => (intro w' hSw; clear hSw; go_simp; intro hh; omega)
  simp only [List.getElem_toArray, List.getElem_cons_succ, List.getElem_cons_zero, Act.put, List.setIfInBounds_toArray, List.set_cons_zero, List.set_cons_succ]
  refine wpAnyH_take (i := 8) (v := ?v8) rfl (by kernel_rfl) (by kernel_rfl) (by kernel_rfl) (fun _ _ _ h => h) (Or.inl ⟨by rfl, ?y8⟩) HS0.out ?r8
  case y8 => (intro w' hSw; clear hSw; go_simp; try with_reducible rfl)
  simp only [List.getElem_toArray, List.getElem_cons_succ, List.getElem_cons_zero, Act.put, List.setIfInBounds_toArray, List.set_cons_zero, List.set_cons_succ]
  refine wpAnyH_take (i := 11) (v := ?v11) rfl (by kernel_rfl) (by kernel_rfl) (by kernel_rfl) (fun _ _ _ h => h) (Or.inl ⟨by rfl, ?y11⟩) HS0.out ?r11
  case y11 => (intro w' hSw; clear hSw; go_simp; try with_reducible rfl)
  simp only [List.getElem_toArray, List.getElem_cons_succ, List.getElem_cons_zero, Act.put, List.setIfInBounds_toArray, List.set_cons_zero, List.set_cons_succ]
  refine wpAnyH_take (i := 12) (v := ?v12) rfl (by kernel_rfl) (by kernel_rfl) (by kernel_rfl) (fun _ _ _ h => h) (Or.inl ⟨by rfl, ?y12⟩) HS0.out ?r12
  case y12 => (intro w' hSw; clear hSw; go_simp; try with_reducible rfl)
  simp only [List.getElem_toArray, List.getElem_cons_succ, List.getElem_cons_zero, Act.put, List.setIfInBounds_toArray, List.set_cons_zero, List.set_cons_succ]
  refine wpAnyH_take (i := 13) (v := .int .i64 (m : Int)) rfl (by kernel_rfl) (by kernel_rfl) (by kernel_rfl) (fun _ _ _ h => h) (Or.inl ⟨by rfl, ?y13⟩) HS0.out ?r13
  case y13 => (intro w' hSw; clear hSw; go_simp; intro hh; omega)
  simp only [List.getElem_toArray, List.getElem_cons_succ, List.getElem_cons_zero, Act.put, List.setIfInBounds_toArray, List.set_cons_zero, List.set_cons_succ]
  refine wpAnyH_take (i := 14) (v := ?v14) rfl (by kernel_rfl) (by kernel_rfl) (by kernel_rfl) (fun _ _ _ h => h) (Or.inl ⟨by rfl, ?y14⟩) HS0.out ?r14
  case y14 => (intro w' hSw; clear hSw; go_simp; try with_reducible rfl)
  simp only [List.getElem_toArray, List.getElem_cons_succ, List.getElem_cons_zero, Act.put, List.setIfInBounds_toArray, List.set_cons_zero, List.set_cons_succ]
  refine wpAnyH_take (i := 15) (v := ?v15) rfl (by kernel_rfl) (by kernel_rfl) (by kernel_rfl) (fun _ _ _ h => h) (Or.inl ⟨by rfl, ?y15⟩) HS0.out ?r15
  case y15 => (intro w' hSw; (try dsimp only at hSw); go_simp; try with_reducible rfl)
  simp only [List.getElem_toArray, List.getElem_cons_succ, List.getElem_cons_zero, Act.put, List.setIfInBounds_toArray, List.set_cons_zero, List.set_cons_succ]
  refine wpAnyH_ready (rs := [9]) (by kernel_rfl) (by simp) ?_
  refine AllReadyH.cons rfl (fun K' hK => ?_) AllReadyH.nil
  simp only [List.getElem_toArray, List.getElem_cons_succ, List.getElem_cons_zero]
  go_simp
  refine (rtag_any K A (some ad) key ahead b 32 ck na ca m cd w.drew HK.out.drew (by omega) HA.out.drew HBm.out.drew hma (by omega) t HTG).mono ?_
  rintro e' w1 ⟨A1, n1, c1, rfl, hX1, hB1⟩
  have HB1 := Lib.hid (below_of_drew hB1)
  have HX1 := Lib.hid hX1.any
  have HS1 : Hid ((convert 22 9 (.slice (some (ad.add m)) 32 (cd - m))).run Tryd.prog w1 = .ok (.string (txt x)) w1) := Lib.hid (HX.out.below HB1.out).conv
  clear hX1 hB1
  refine hK.out _ _ HS1.out (fun _ => ?_)
  clear hK
  try simp only [List.getElem_toArray, List.getElem_cons_succ, List.getElem_cons_zero, Act.put, List.setIfInBounds_toArray, List.set_cons_zero, List.set_cons_succ]
  refine Kec.wpAnyH_more (S' := fun w' => (convert 22 9 (.slice A1 n1 c1)).run Tryd.prog w' = .ok (.string (txt t)) w' ∧ (convert 22 9 (.slice (some (ad.add m)) 32 (cd - m))).run Tryd.prog w' = .ok (.string (txt x)) w') (fun _ h => h.2) _ _ _ _ ?_
  refine wpAnyH_take (i := 10) (v := ?v10) rfl (by kernel_rfl) (by kernel_rfl) (by kernel_rfl) (fun _ _ _ h => h) (Or.inl ⟨by rfl, ?y10⟩) ⟨HX1.out.conv, HS1.out⟩ ?r10
  case y10 => (intro w' hSw; have s1 := hSw.1; (try dsimp only at s1); clear hSw; go_simp; try with_reducible rfl)
  simp only [List.getElem_toArray, List.getElem_cons_succ, List.getElem_cons_zero, Act.put, List.setIfInBounds_toArray, List.set_cons_zero, List.set_cons_succ]
  refine wpAnyH_take (i := 16) (v := ?v16) rfl (by kernel_rfl) (by kernel_rfl) (by kernel_rfl) (fun _ _ _ h => h) (Or.inl ⟨by rfl, ?y16⟩) ⟨HX1.out.conv, HS1.out⟩ ?r16
  case y16 => (intro w' hSw; clear hSw; go_simp; try with_reducible rfl)
  simp only [List.getElem_toArray, List.getElem_cons_succ, List.getElem_cons_zero, Act.put, List.setIfInBounds_toArray, List.set_cons_zero, List.set_cons_succ]
  refine wpAnyH_take (i := 17) (v := ?v17) rfl (by kernel_rfl) (by kernel_rfl) (by kernel_rfl) (fun _ _ _ h => h) (Or.inl ⟨by rfl, ?y17⟩) ⟨HX1.out.conv, HS1.out⟩ ?r17
  case y17 => (intro w' hSw; clear hSw; go_simp; try with_reducible rfl)
  simp only [List.getElem_toArray, List.getElem_cons_succ, List.getElem_cons_zero, Act.put, List.setIfInBounds_toArray, List.set_cons_zero, List.set_cons_succ]
  refine wpAnyH_done (by kernel_rfl) ?_ _
  change Exit.then _ _ Exit.normal _ _
  have e0 : decide ((m : Int) < 0) = false := decide_eq_false (by omega)
  by_cases hq : t = x
  · have HR2 : Hid ((hide (kS key) b, 0) = r) := Lib.hid (by rw [← HR.out, if_pos hq])
    rw [decide_eq_true hq, e0]
    simp only [Bool.not_true, Bool.or_false]
    clear e0 hq hbeq htl HS0 HS1
    have HB1' := Lib.hid (show Below w.heap.size w w1 from HB1.out)
    go_wp2_with fail
    refine (rstream_any K (some ad) key b 32 ck m cd w1 (by have := HB1.out.size; omega) (HK.out.below HB1.out) (by omega) (HBm.out.below HB1.out) (by omega)).mono ?_
    rintro e' w2 ⟨v, rfl, hO, hB2⟩
    obtain ⟨C, cap, rfl⟩ := own_slice_of hO
    obtain ⟨A3, c3, e3, hX3⟩ := Txt.of_own hO (hide_lt _ HBm.out.lt)
    injection e3 with e1 e2 e3
    subst e1 e3
    have HX3 := Lib.hid (hX3.mono (New.mono HB1.out.size)); have HB2 := Lib.hid (HB1.out.trans (hB2.mono HB1.out.size)); clear hX3 hO hB2
    generalize (hide (kS key) b).length = nn at *
    go_wp2
    go_ret2
    rw [← HR2.out]
    exact ⟨_, _, _, rfl, HX3.out, HB2.out⟩
  · have HR2 : Hid (([], 121) = r) := Lib.hid (by rw [← HR.out, if_neg hq])
    rw [decide_eq_false hq, e0]
    simp only [Bool.not_false, Bool.or_true]
    clear e0 hq hbeq
    go_wp2
    go_ret2
    rw [← HR2.out]
    exact ⟨_, _, _, rfl, Txt.nil _ _, HB1.out⟩
end Go.Proofs.YtfhibjpkbbbfpaaDoor.Bx
