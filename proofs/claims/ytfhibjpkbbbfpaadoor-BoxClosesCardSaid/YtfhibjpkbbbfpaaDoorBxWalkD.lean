/- Walks: Close. -/
import Derived.Test.YtfhibjpkbbbfpaaDoorBxWalkC
namespace Go.Proofs.YtfhibjpkbbbfpaaDoor.Bx
set_option linter.all false
open Go.RowKit Wr

theorem txt_of_tag {w : World} {g : Nat} {t : List Nat} {ty : TypeId} {fr : Nat × Nat} (h : w.heap[g]? = some (.cells (bcells t).toArray ty fr)) (hl : t.length = 32) (hx : ∀ j, gt t j < 256) : Txt Any w (some ⟨g, 0, none⟩) 32 32 t := by
  refine ⟨⟨hx, fun _ => ⟨_, rfl, (Array.getElem?_eq_some_iff.1 h).1, fun j hj => ?_⟩⟩, hl, Nat.le_refl _, by omega, fun e => (by cases e), fun _ _ => True.intro⟩
  have hd : (⟨g, 0, none⟩ : Addr).add j = ⟨g, j, none⟩ := by unfold Addr.add; split <;> simp_all
  rw [hd, cell_of_row w g j _ ty fr h]
  simpa using bcells_at t j hj
theorem run_whole (g : Nat) (w : World) : (Instr.sliceAt 37 (.pointer (some ⟨g, 0, none⟩)) none none none).run Tryd.prog w = .ok (.slice (some ⟨g, 0, none⟩) 32 32) w := by
  have h1 : Tryd.prog.underlying 37 = some (.array (Tryd.prog.arrayLen 37) (Tryd.prog.elem 37)) := by kernel_rfl
  have h2 : Tryd.prog.arrayLen 37 = 32 := by kernel_rfl
  have h3 : Tryd.prog.elem 37 = 5 := by kernel_rfl
  rw [run_sliceAt_array_all w 37 _ h1, h2, h3]
  have h4 : (Tryd.prog.info? 5).map (·.size) = some 1 := by kernel_rfl
  cases hq : Tryd.prog.info? 5 with
  | none => simp [hq] at h4
  | some i => simp [sizeOf, typeInfo, hq, slicedAt, Addr.add]
theorem closeP_1 {key ahead text : List Nat} (h : ¬ key.length = 32) : closeP key ahead text = ([], 1) := if_pos h
theorem closeP_2 {key ahead text : List Nat} (h : key.length = 32) (h2 : 32768 < ahead.length ∨ 32768 < text.length) : closeP key ahead text = ([], 2) := by unfold closeP; rw [if_neg (fun e => e h), if_pos h2]
theorem closeP_0 {key ahead text : List Nat} (h : key.length = 32) (h2 : ahead.length ≤ 32768) (h3 : text.length ≤ 32768) : closeP key ahead text = (hide (kS key) text ++ tg (kT key) ahead (hide (kS key) text), 0) := by unfold closeP; rw [if_neg (fun e => e h), if_neg (by omega)]

set_option maxHeartbeats 2000000 in
set_option maxRecDepth 100000 in
theorem close_bad (K A B : Option Addr) (nk ck na ca nb cb : Nat) (w : World) (h : ¬ nk = 32 ∨ 32768 < na ∨ 32768 < nb) :
    Calls Tryd.prog 9 #[.slice K nk ck, .slice A na ca, .slice B nb cb] w fun e w' => e = .returned (.tuple #[.slice none 0 0, .int .i64 (if nk = 32 then 2 else 1)]) ∧ w = w' := by
  by_cases h1 : nk = 32
  · subst h1
    by_cases h2 : 32768 < na
    · have y2 : (32768 : Int) < (na : Int) := by omega
      go_enter Tryd.func9, Tryd.ntmps9
      go_wp2
      go_ret2
      exact ⟨rfl, rfl⟩
    · have y2 : ¬ (32768 : Int) < (na : Int) := by omega
      have y3 : (32768 : Int) < (nb : Int) := by omega
      go_enter Tryd.func9, Tryd.ntmps9
      go_wp2
      go_ret2
      exact ⟨rfl, rfl⟩
  · have y1 : ((nk : Int) != 32) = true := by rw [bne_iff_ne]; omega
    rw [if_neg h1]
    go_enter Tryd.func9, Tryd.ntmps9
    go_wp2
    go_ret2
    exact ⟨rfl, rfl⟩

set_option maxHeartbeats 2000000 in
set_option maxRecDepth 100000 in
theorem close_own (K A B : Option Addr) (key ahead text : List Nat) (ck na ca nb cb : Nat) (w : World) (hT : Tabs w) (hK : Txt Any w K 32 ck key) (hA : Txt Any w A na ca ahead) (hB : Txt Any w B nb cb text) (hma : na ≤ 32768) (hmb : nb ≤ 32768)
    (h t : List Nat) (hh : Hid (hide (kS key) text = h)) (ht : Hid (tg (kT key) ahead h = t)) :
    Calls Tryd.prog 9 #[.slice K 32 ck, .slice A na ca, .slice B nb cb] w fun e w' => ∃ C cap, e = .returned (.tuple #[.slice C (h ++ t).length cap, .int .i64 0]) ∧ w'.ownsRow w.heap.size 5 1 (.slice C (h ++ t).length cap) (h ++ t).length (bcells (h ++ t)) ∧ Below w.heap.size w w' := by
  have hlt := hT.lt
  have HT := Lib.hid hT; have HK := Lib.hid hK; have HA := Lib.hid hA; have HB := Lib.hid hB; clear hT hK hA hB
  have HHL : Hid (h.length = nb) := Lib.hid (by rw [← hh.out, hide_len]; exact HB.out.len)
  have HHX : Hid (∀ j, gt h j < 256) := Lib.hid (by rw [← hh.out]; exact hide_lt _ HB.out.lt)
  have HTL : Hid (t.length = 32) := Lib.hid (by rw [← ht.out]; exact tg_len _ _ _)
  have HTX : Hid (∀ j, gt t j < 256) := Lib.hid (by rw [← ht.out]; exact tg_lt _ _ _)
  have y2 : ¬ (32768 : Int) < (na : Int) := by omega
  have y3 : ¬ (32768 : Int) < (nb : Int) := by omega
  go_enter Tryd.func9, Tryd.ntmps9
  go_wp2_with fail
  refine (keysOf_any K key 32 ck w HT.out HK.out (by omega)).mono ?_
  rintro e' w1 ⟨A1, c1, A2, c2, rfl, hX1, hX2, hB1⟩
  have HX1 := Lib.hid hX1.any; have HX2 := Lib.hid hX2.any; have HB1 := Lib.hid hB1; clear hX1 hX2 hB1
  have HG2 : Hid (KeysIn w1.heap.size A1 c1 A2 c2 (w1.alloc (.cells #[.slice A1 32 c1, .slice A2 32 c2] 33))) := Lib.hid (heap_alloc_last w1 _)
  have HB2 := Lib.hid (HB1.out.alloc HB1.out.size (.cells #[.slice A1 32 c1, .slice A2 32 c2] 33))
  have HD2 := Lib.hid ((Below.refl w1.heap.size w1).alloc (Nat.le_refl _) (.cells #[.slice A1 32 c1, .slice A2 32 c2] 33))
  go_wp2_with fail
  obtain ⟨w2, hw2⟩ : ∃ w2, w1.alloc (.cells #[.slice A1 32 c1, .slice A2 32 c2] 33) = w2 := ⟨_, rfl⟩
  rw [hw2] at HG2 HB2 HD2
  rw [hw2]
  clear hw2
  refine (crossed_any A1 A2 c1 c2 (kS key) (kT key) text B nb cb w2 (HT.out.below HB2.out hlt) (HX1.out.below HD2.out) (HB.out.below HB2.out) (by omega)).mono ?_
  rintro e' w3 ⟨A3, n3, c3, rfl, hX3, hB3⟩
  rw [hh.out] at hX3
  obtain rfl : n3 = nb := by rw [← hX3.len]; exact HHL.out
  have HX3 := Lib.hid hX3.any; have HG3 := Lib.hid (HG2.out.below hB3); have HB3 := Lib.hid (HB2.out.trans (hB3.mono HB2.out.size)); have HD3 := Lib.hid (HD2.out.trans (hB3.mono HD2.out.size))
  have q0 := HG3.out.cell0
  have q1 := HG3.out.cell1
  clear hX3 hB3 HG2
  go_wp2_with fail
  refine (tagOf_any A1 A2 c1 c2 (kT key) ahead h A A3 na ca n3 c3 w3 (HT.out.below HB3.out hlt) (HX2.out.below HD3.out) (HA.out.below HB3.out) HX3.out hma hmb t ht).mono ?_
  rintro e' w4 ⟨rfl, hB4⟩
  have HX4 := Lib.hid (HX3.out.below hB4); have HB4 := Lib.hid (HB3.out.trans (hB4.mono HB3.out.size))
  clear hB4 q0 q1 HX3 HG3 HD2 HD3
  obtain ⟨Z, hz, hZ⟩ := zero_tag
  have HZ := Lib.hid hZ; clear hZ
  have HQ5 := Lib.hid (heap_alloc_last w4 (.cells Z 37))
  have HB5 := Lib.hid (HB4.out.alloc HB4.out.size (.cells Z 37))
  have HX5 := Lib.hid (HX4.out.below ((Below.refl w4.heap.size w4).alloc (Nat.le_refl _) (.cells Z 37)))
  go_wp2_with (refine wpList_store_row rfl 37 (.tmp 10) (.tmp 30) rfl w4.heap.size (bcells t).toArray rfl rfl 37 Z HQ5.out (tag_sized HTL.out) (by rw [HZ.out, List.size_toArray, bcells_len, HTL.out]) (bcells_all t) ?_)
  obtain ⟨w5, hw5⟩ : ∃ w5, (w4.alloc (.cells Z 37)).setRow w4.heap.size (bcells t).toArray = w5 := ⟨_, rfl⟩
  rw [hw5]
  have h5 : w5.heap.size = w4.heap.size + 1 := by rw [← hw5]; simp
  have hq5 : w5.heap[w4.heap.size]? = some (.cells (bcells t).toArray 37 (0, 0)) := by rw [← hw5]; exact setRow_heap _ _ _ _ _ _ HQ5.out
  have HXt := Lib.hid (txt_of_tag hq5 HTL.out HTX.out)
  have HX6 : Hid (Txt Any w5 A3 n3 c3 h) := Lib.hid (HX4.out.below (by rw [← hw5]; exact below_setRow ((Below.refl w4.heap.size w4).alloc (Nat.le_refl _) _) (Nat.le_refl _) _))
  have HB6 : Hid (Below w.heap.size w w5) := Lib.hid (by rw [← hw5]; exact below_setRow HB5.out HB4.out.size _)
  rw [← h5]
  have HL6 := Lib.hid (two_parts HX6.out HXt.out 22)
  have HB7 := Lib.hid (HB6.out.alloc HB6.out.size (.cells #[.slice A3 n3 c3, .slice (some ⟨w4.heap.size, 0, none⟩) 32 32] 22))
  clear HX5 HQ5 HB5 HX4 hq5 h5 hw5
  refine (concat_own ⟨w5.heap.size, 0, none⟩ 2 2 [h, t] _ HL6.out (by omega) (by omega) (by have := HHL.out; have := HTL.out; simp only [List.flatten_cons, List.flatten_nil, List.length_append, List.append_nil]; omega)).mono ?_
  have e8 : [h, t].flatten = h ++ t := by simp
  rw [e8]
  rintro e' w8 ⟨C8, c8, rfl, hO8, hB8⟩
  have HO8 := Lib.hid (Kec.own_down hO8 HB7.out.size); have HB8 := Lib.hid (HB7.out.trans (hB8.mono HB7.out.size))
  clear hO8 hB8
  obtain ⟨nn, hnn⟩ : ∃ nn, (h ++ t).length = nn := ⟨_, rfl⟩
  rw [hnn] at HO8 ⊢
  have HNN := Lib.hid hnn
  clear hnn
  go_wp2
  go_ret2
  exact ⟨_, _, by rw [HNN.out]; rfl, by rw [HNN.out]; exact HO8.out, HB8.out⟩
theorem close_ok (K A B : Option Addr) (key ahead text : List Nat) (ck na ca nb cb : Nat) (w : World) (hT : Tabs w) (hK : Txt Any w K 32 ck key) (hA : Txt Any w A na ca ahead) (hB : Txt Any w B nb cb text) (hma : na ≤ 32768) (hmb : nb ≤ 32768)
    (h t : List Nat) (hh : Hid (hide (kS key) text = h)) (ht : Hid (tg (kT key) ahead h = t)) :
    Calls Tryd.prog 9 #[.slice K 32 ck, .slice A na ca, .slice B nb cb] w (ToldE (h ++ t, 0) w) :=
  (close_own K A B key ahead text ck na ca nb cb w hT hK hA hB hma hmb h t hh ht).mono fun e w' ⟨C, cap, he, ho, hb⟩ => by
    obtain ⟨A', c', e1, hX⟩ := Txt.of_own ho (gt_append_lt (by rw [← hh.out]; exact hide_lt _ hB.lt) (by rw [← ht.out]; exact tg_lt _ _ _))
    injection e1 with e1 _ e3
    subst e1 e3
    exact ⟨_, _, _, he, hX, hb⟩
/-- Close, of whatever lengths -/
theorem close_any (K A B : Option Addr) (key ahead text : List Nat) (nk ck na ca nb cb : Nat) (w : World) (hT : Tabs w) (hK : Txt Any w K nk ck key) (hA : Txt Any w A na ca ahead) (hB : Txt Any w B nb cb text)
    (r : List Nat × Nat) (hr : Hid (closeP key ahead text = r)) :
    Calls Tryd.prog 9 #[.slice K nk ck, .slice A na ca, .slice B nb cb] w (ToldE r w) := by
  have e1 := hK.len; have e2 := hA.len; have e3 := hB.len
  rw [← hr.out]
  by_cases hbad : ¬ nk = 32 ∨ 32768 < na ∨ 32768 < nb
  · refine (close_bad K A B nk ck na ca nb cb w hbad).mono ?_
    rintro e w' ⟨rfl, rfl⟩
    by_cases h1 : nk = 32
    · rw [closeP_2 (e1.trans h1) (by omega), if_pos h1]
      exact ⟨_, _, _, rfl, Txt.nil _ _, Below.refl _ _⟩
    · rw [closeP_1 (by omega), if_neg h1]
      exact ⟨_, _, _, rfl, Txt.nil _ _, Below.refl _ _⟩
  · obtain rfl : nk = 32 := by omega
    rw [closeP_0 e1 (by omega) (by omega)]
    exact close_ok K A B key ahead text ck na ca nb cb w hT hK hA hB (by omega) (by omega) _ _ (Lib.hid rfl) (Lib.hid rfl)
end Go.Proofs.YtfhibjpkbbbfpaaDoor.Bx
