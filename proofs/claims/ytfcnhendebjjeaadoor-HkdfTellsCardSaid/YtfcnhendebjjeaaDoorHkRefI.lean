/- The document's own: long, Info. -/
import Derived.Test.YtfcnhendebjjeaaDoorHkWalkJ
import Derived.Laws.IdiomStrings
namespace Go.Proofs.YtfcnhendebjjeaaDoor.Sha
set_option linter.all false
open Go.RowKit Iter

theorem made_own (w : World) (bs : List Nat) (n : Nat) (hn : bs.length = n) (hm : n ≤ maxLen) {base : Nat} (h : base ≤ w.heap.size) : (w.alloc (.cells (bcells bs).toArray 5)).ownsRow base 5 1 (.slice (some ⟨w.heap.size, 0, none⟩) n n) n (bcells bs) :=
  own_of_row (rowIs_words (k := .u8) (heap_alloc_last w _) hn) hn hm h
theorem strL_append (s t : ByteArray) : strL (s ++ t) = strL s ++ strL t := by
  unfold strL; rw [ByteArray.data_append, Array.toList_append, List.map_append]
theorem run_str_bytes (w : World) (s : ByteArray) (hs : s.size ≤ 1000000) : ∃ c w', s.size ≤ c ∧ c ≤ 9223372036854775807 ∧ (convert 9 22 (.string s)).run Tryd.prog w = .ok (.slice (some ⟨w.heap.size, 0, none⟩) s.size c) w' ∧ Below w.heap.size w w' ∧ w'.heap.size = w.heap.size + 1 ∧ Rd w' (w.heap.size + 1) (some ⟨w.heap.size, 0, none⟩) (strL s) := by
  refine ⟨_, _, grownCap_ge w s.size 0 5, ?_, run_bytes_of_string (P := Tryd.prog) w 9 22 5 s Tryd.underlying9 Tryd.underlying22 Tryd.underlying5, (Below.refl w.heap.size w).drew.alloc (by simp) _, by simp, strL_lt s, fun _ => ⟨_, rfl, by show w.heap.size < _; omega, fun j hj => ?_⟩⟩
  · have := grownCap_le_maxLen w s.size 0 5 (by unfold maxLen; omega)
    unfold maxLen at this; omega
  · rw [strL_len] at hj
    have ha : (⟨w.heap.size, 0, none⟩ : Addr).add j = ⟨w.heap.size, j, none⟩ := by unfold Addr.add; split <;> simp_all
    have hl := heap_alloc_last w.drew (.cells (bytesRow s (grownCap w s.size 0 5)) 5 ((bytesRow s (grownCap w s.size 0 5)).size, (bytesRow s (grownCap w s.size 0 5)).size + 1))
    have hj' : j < s.data.size := hj
    rw [ha, cell_of_row _ w.heap.size j _ 5 _ hl, bytesRow_at s _ j hj']
    congr 2
    unfold gt strL
    rw [List.getD_eq_getElem?_getD, List.getElem?_map, Array.getElem?_toList, Array.getElem?_eq_getElem hj']; rfl

set_option maxHeartbeats 2000000 in
set_option maxRecDepth 100000 in
theorem long_any (A : Option Addr) (b : List Nat) (n c : Nat) (w : World) (hR : Rd w w.heap.size A b) (hn : b.length = n) (hc : A = none → c = 0) (hb : n ≤ 16000) :
    Calls Tryd.prog 27 #[.slice A n c] w fun e w' => ∃ h cp, e = .returned (.slice (some ⟨h, 0, none⟩) ((lenB n).length + n) cp) ∧ w'.ownsRow w.heap.size 5 1 (.slice (some ⟨h, 0, none⟩) ((lenB n).length + n) cp) ((lenB n).length + n) (bcells (lenB n ++ b)) ∧ Below w.heap.size w w' := by
  have HR := Lib.hid hR; have HN := Lib.hid (fun _ : Unit => hn); have HC := Lib.hid hc
  clear hR hn hc
  by_cases h64 : n < 64
  · have hl : lenB n = [n] := by unfold lenB; rw [if_pos h64]
    rw [hl]
    have y1 : (n : Int) < 64 := by omega
    have x2 : IntKind.u8.wrap (n : Int) = (n : Int) := by rw [IntKind.wrap_u8]; omega
    have HO := Lib.hid (made_own w [n] 1 rfl (by unfold maxLen; omega) (Nat.le_refl _))
    have HB := Lib.hid ((Below.refl w.heap.size w).alloc (Nat.le_refl _) (.cells #[.int .u8 (n : Int)] 5))
    have HR1 := Lib.hid (HR.out.below HB.out)
    go_enter Tryd.func27, Tryd.ntmps27
    go_wp2_with (at_builtin; refine wpList_append_rd rfl (.tmp 10) (.tmp 11) rfl w.heap.size w.heap.size 1 1 n c w.heap.size [n] b A rfl rfl HO.out HR1.out (HN.out ()) HC.out (by omega) (by simp) ?_)
    intro g' cap' w' h1 h2 _
    have HW := Lib.hid h1; have HB3 := Lib.hid (below_of_only HB.out h2 (Nat.le_refl _))
    clear h1 h2
    go_wp2
    go_ret
    exact ⟨g', cap', rfl, HW.out, HB3.out⟩
  · have hl : lenB n = two (n + 16384) := by unfold lenB; rw [if_neg h64]
    rw [hl]
    have y1 : ¬ (n : Int) < 64 := by omega
    have x0 : IntKind.i64.wrap ((n : Int) + 16384) = ((n + 16384 : Nat) : Int) := by rw [IntKind.wrap_i64]; omega
    have x9 : (n : Int) + 16384 = ((n + 16384 : Nat) : Int) := by omega
    obtain ⟨m, hm⟩ : ∃ m, n + 16384 = m := ⟨_, rfl⟩
    rw [hm] at x0 x9 ⊢
    have hm' : m ≤ 40000 := by omega
    clear hm
    have x1 : IntKind.u8.wrap ((m : Int) / 256) = ((m / 256 % 256 : Nat) : Int) := by rw [IntKind.wrap_u8]; omega
    have x2 : IntKind.u8.wrap (m : Int) = ((m % 256 : Nat) : Int) := by rw [IntKind.wrap_u8]; omega
    have HO : Hid ((w.alloc (.cells #[.int .u8 ((m : Int) / 256 % 256), .int .u8 ((m : Int) % 256)] 5)).ownsRow w.heap.size 5 1 (.slice (some ⟨w.heap.size, 0, none⟩) 2 2) 2 (bcells (two m))) := Lib.hid (by
      have e1 : ((m : Int) / 256 % 256) = ((m / 256 % 256 : Nat) : Int) := by omega
      have e2 : ((m : Int) % 256) = ((m % 256 : Nat) : Int) := by omega
      rw [e1, e2]
      exact made_own w (two m) 2 rfl (by unfold maxLen; omega) (Nat.le_refl _))
    have HB := Lib.hid ((Below.refl w.heap.size w).alloc (Nat.le_refl _) (.cells #[.int .u8 ((m : Int) / 256 % 256), .int .u8 ((m : Int) % 256)] 5))
    have HR1 := Lib.hid (HR.out.below HB.out)
    go_enter Tryd.func27, Tryd.ntmps27
    go_wp2_with (at_builtin; refine wpList_append_rd rfl (.tmp 21) (.tmp 22) rfl w.heap.size w.heap.size 2 2 n c w.heap.size (two m) b A rfl rfl HO.out HR1.out (HN.out ()) HC.out (by omega) (by simp) ?_)
    intro g' cap' w' h1 h2 _
    have HW := Lib.hid h1; have HB3 := Lib.hid (below_of_only HB.out h2 (Nat.le_refl _))
    clear h1 h2
    go_wp2
    go_ret
    exact ⟨g', cap', rfl, HW.out, HB3.out⟩

set_option maxHeartbeats 2000000 in
set_option maxRecDepth 100000 in
theorem rinfo_any (s : ByteArray) (A2 : Option Addr) (b : List Nat) (nb cb x : Nat) (w : World) (hR : Rd w w.heap.size A2 b) (hn : b.length = nb) (hc : A2 = none → cb = 0) (hx : x ≤ 8160) (hs : s.size ≤ 40) (hb : nb ≤ 16000) :
    Calls Tryd.prog 20 #[.string s, .slice A2 nb cb, .int .i64 x] w fun e w' => ∃ h n cp, e = .returned (.slice (some ⟨h, 0, none⟩) n cp) ∧ n = (infoL (strL s) b x).length ∧ w'.ownsRow w.heap.size 5 1 (.slice (some ⟨h, 0, none⟩) n cp) n (bcells (infoL (strL s) b x)) ∧ Below w.heap.size w w' := by
  have HR := Lib.hid hR; have HN := Lib.hid (fun _ : Unit => hn); have HC := Lib.hid hc
  clear hR hn hc
  have y0 : ¬ (x : Int) < 0 := by omega
  have y1 : ¬ (8160 : Int) < (x : Int) := by omega
  have y2 : ¬ (40 : Int) < (s.size : Int) := by omega
  have y3 : ¬ (16000 : Int) < (nb : Int) := by omega
  have x1 : IntKind.u8.wrap ((x : Int) / 256) = ((x / 256 % 256 : Nat) : Int) := by rw [IntKind.wrap_u8]; omega
  have x2 : IntKind.u8.wrap (x : Int) = ((x % 256 : Nat) : Int) := by rw [IntKind.wrap_u8]; omega
  have HO : Hid ((w.alloc (.cells #[.int .u8 ((x : Int) / 256 % 256), .int .u8 ((x : Int) % 256)] 5)).ownsRow w.heap.size 5 1 (.slice (some ⟨w.heap.size, 0, none⟩) 2 2) 2 (bcells (two x))) := Lib.hid (by
    have e1 : ((x : Int) / 256 % 256) = ((x / 256 % 256 : Nat) : Int) := by omega
    have e2 : ((x : Int) % 256) = ((x % 256 : Nat) : Int) := by omega
    rw [e1, e2]
    exact made_own w (two x) 2 rfl (by unfold maxLen; omega) (Nat.le_refl _))
  have HB := Lib.hid ((Below.refl w.heap.size w).alloc (Nat.le_refl _) (.cells #[.int .u8 ((x : Int) / 256 % 256), .int .u8 ((x : Int) % 256)] 5))
  have hsz : ({ data := #[71, 75, 65, 32, 49, 46, 48, 32] } ++ s : ByteArray).size = 8 + s.size := by rw [ByteArray.size_append]; rfl
  obtain ⟨c1, w1, hc1, hcm1, hrun1, hb1, hs1, hr1⟩ := run_str_bytes (w.alloc (.cells #[.int .u8 ((x : Int) / 256 % 256), .int .u8 ((x : Int) % 256)] 5)) ({ data := #[71, 75, 65, 32, 49, 46, 48, 32] } ++ s) (by rw [hsz]; omega)
  rw [hsz] at hrun1 hc1
  have hza : (w.alloc (.cells #[.int .u8 ((x : Int) / 256 % 256), .int .u8 ((x : Int) % 256)] 5)).heap.size = w.heap.size + 1 := by simp
  have hb1' := hb1
  rw [hza] at hrun1 hr1 hs1
  rw [strL_append, front_str] at hr1
  have HB1 := Lib.hid (HB.out.trans (hb1.mono HB.out.size))
  have HO1 := Lib.hid (own_below HO.out hb1 (Nat.le_refl _))
  have HR1 := Lib.hid (hr1.more (B' := w1.heap.size) (by omega))
  clear hb1 hb1' hza hs1 hr1 hsz HB HO
  obtain ⟨m, hm⟩ : ∃ m, 8 + s.size = m := ⟨_, rfl⟩
  rw [hm] at hrun1 hc1
  have hm48 : m ≤ 48 := by omega
  have HM := Lib.hid (fun _ : Unit => hm); clear hm
  obtain ⟨L, hL⟩ : ∃ L, front ++ strL s = L := ⟨_, rfl⟩
  rw [hL] at HR1
  have HLN : Hid (L.length = m) := Lib.hid (by rw [← hL, List.length_append, strL_len, ← HM.out ()]; rfl)
  have HL := Lib.hid (fun _ : Unit => hL); clear hL
  go_enter Tryd.func20, Tryd.ntmps20
  go_wp2_with fail
  refine (long_any (some ⟨w.heap.size + 1, 0, none⟩) L m c1 w1 HR1.out HLN.out (fun e => by cases e) (by omega)).mono ?_
  rintro e' w2 ⟨h2, c2, rfl, hown2, hb2⟩
  have hc2 := own_cap hown2
  have hlm : lenB m = [m] := by unfold lenB; rw [if_pos (by omega)]
  rw [hlm] at hown2 hc2
  have HO2 := Lib.hid hown2
  have HO12 := Lib.hid (own_below HO1.out hb2 (Nat.le_refl _))
  have HB2 := Lib.hid (HB1.out.trans (hb2.mono HB1.out.size))
  have HL2 := Lib.hid (gt_append_lt (gt_lt_of_mem (a := [m]) (by intro v hv; simp only [List.mem_cons, List.not_mem_nil, or_false] at hv; omega)) HR1.out.1)
  have HRL := Lib.hid (rd_of_own HO2.out HL2.out (Nat.le_refl _))
  rw [hlm]
  obtain ⟨L2, hL2⟩ : ∃ L2, [m] ++ L = L2 := ⟨_, rfl⟩
  rw [hL2] at HRL HL2
  have HLE2 := Lib.hid (fun _ : Unit => hL2); clear hL2
  have HLN2 : Hid (L2.length = 1 + m) := Lib.hid (by rw [← HLE2.out (), List.length_append, HLN.out]; rfl)
  obtain ⟨m2, hm2⟩ : ∃ m2, [m].length + m = m2 := ⟨_, rfl⟩
  have hm2' : m2 = 1 + m := hm2.symm
  rw [hm2] at hc2 ⊢
  clear hm2 hlm hown2 hb2 HO2
  rw [← hm2'] at HLN2
  have h49 : m2 ≤ 49 := by omega
  have HM2 := Lib.hid (fun _ : Unit => hm2'); clear hm2'
  go_wp2_with (at_builtin; refine wpList_append_rd rfl (.tmp 30) (.tmp 34) rfl w.heap.size w.heap.size 2 2 m2 c2 w2.heap.size (two x) L2 (some ⟨h2, 0, none⟩) rfl rfl HO12.out HRL.out HLN2.out (fun e => by cases e) (by omega) HB2.out.size ?_)
  intro g3 cap3 w3 h3 g3w _
  have HO3 := Lib.hid h3; have HB3 := Lib.hid (below_of_only HB2.out g3w (Nat.le_refl _))
  clear h3 g3w
  go_wp2_with fail
  refine (long_any A2 b nb cb w3 ((HR.out.below HB3.out).more HB3.out.size) (HN.out ()) HC.out hb).mono ?_
  rintro e' w4 ⟨h4, c4, rfl, hown4, hb4⟩
  have HO4 := Lib.hid hown4
  have HO34 := Lib.hid (own_below HO3.out hb4 (Nat.le_refl _))
  have HB4 := Lib.hid (HB3.out.trans (hb4.mono HB3.out.size))
  have hl2 := lenB_len nb
  have HL4 := Lib.hid (gt_append_lt (lenB_lt nb) HR.out.1)
  have HRL4 := Lib.hid (rd_of_own HO4.out HL4.out (Nat.le_refl _))
  have HLN4 : Hid ((lenB nb ++ b).length = (lenB nb).length + nb) := Lib.hid (by rw [List.length_append, HN.out ()])
  clear hown4 hb4
  generalize hm4 : (lenB nb).length + nb = m4 at *
  have hm4' : m4 ≤ 16002 := by omega
  have HM4 := Lib.hid (fun _ : Unit => hm4); clear hm4
  obtain ⟨L4, hL4⟩ : ∃ L4, lenB nb ++ b = L4 := ⟨_, rfl⟩
  rw [hL4] at HRL4 HLN4
  have HLE4 := Lib.hid (fun _ : Unit => hL4); clear hL4
  go_wp2_with (at_builtin; refine wpList_append_rd rfl (.tmp 36) (.tmp 38) rfl w.heap.size g3 (2 + m2) cap3 m4 c4 w4.heap.size (two x ++ L2) L4 (some ⟨h4, 0, none⟩) rfl rfl HO34.out HRL4.out HLN4.out (fun e => by cases e) (by omega) HB4.out.size ?_)
  intro g5 cap5 w5 h5 g5w _
  have HO5 := Lib.hid h5; have HB5 := Lib.hid (below_of_only HB4.out g5w (HO34.out.lt _ rfl).1)
  clear h5 g5w
  go_wp2
  go_ret
  have e : two x ++ L2 ++ L4 = infoL (strL s) b x := by
    rw [← HLE4.out (), ← HLE2.out (), ← HL.out ()]
    unfold infoL; rw [strL_len, HM.out (), HN.out ()]; simp [List.append_assoc]
  have el : 2 + m2 + m4 = (infoL (strL s) b x).length := by
    rw [infoL_len, strL_len, HN.out ()]; have := HM2.out (); have := HM4.out (); have := HM.out (); omega
  refine ⟨g5, _, cap5, rfl, el, ?_, HB5.out⟩
  rw [← e]
  have := HO5.out
  simpa [List.append_assoc] using this

end Go.Proofs.YtfcnhendebjjeaaDoor.Sha
