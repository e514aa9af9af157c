/- Walks: head. Walks: infoOf, Label. Walks: infoOf, Label. -/
import Derived.Test.YtkplkfokpniflaaDoorHkM2
import Derived.Lib.AppendStr
namespace Go.Proofs.YtkplkfokpniflaaDoor.Sha
set_option linter.all false
open Go.RowKit Iter

def keyL : List Nat := [107, 101, 121]
def foxL : List Nat := [84, 104, 101, 32, 113, 117, 105, 99, 107, 32, 98, 114, 111, 119, 110, 32, 102, 111, 120, 32, 106, 117, 109, 112, 115, 32, 111, 118, 101, 114, 32, 116, 104, 101, 32, 108, 97, 122, 121, 32, 100, 111, 103]
theorem head_mac : (mac keyL foxL).take 4 = [247, 188, 131, 244] := by decide +kernel
theorem const_rd (w : World) (bs : List Nat) (fr : Nat × Nat) (h : ∀ x ∈ bs, x < 256) {B : Nat} (hB : w.heap.size < B) : Rd (w.alloc (.cells (bcells bs).toArray 5 fr)) B (some ⟨w.heap.size, 0, none⟩) bs := by
  refine ⟨gt_lt_of_mem h, fun _ => ⟨_, rfl, hB, fun j hj => ?_⟩⟩
  have ha : (⟨w.heap.size, 0, none⟩ : Addr).add j = ⟨w.heap.size, j, none⟩ := by unfold Addr.add; split <;> simp_all
  rw [ha, cell_of_row _ _ j _ 5 fr (heap_alloc_last w _), List.getElem?_toArray, bcells_at _ _ hj]

end Go.Proofs.YtkplkfokpniflaaDoor.Sha

namespace Go.Proofs.YtkplkfokpniflaaDoor.Sha
set_option linter.all false
open Go.RowKit Iter

/-- a string's bytes -/
def strL (s : ByteArray) : List Nat := s.data.toList.map UInt8.toNat
theorem strL_len (s : ByteArray) : (strL s).length = s.size := by
  unfold strL; rw [List.length_map, Array.length_toList]; rfl
theorem strL_lt (s : ByteArray) : ∀ j, gt (strL s) j < 256 := gt_lt_of_mem (by
  intro x hx
  obtain ⟨b, _, rfl⟩ := List.mem_map.1 hx
  exact b.toNat_lt)
theorem strL_cells (s : ByteArray) : Lib.strCells s = bcells (strL s) := by
  unfold Lib.strCells bcells strL; rw [List.map_map]; rfl
/-- append of a string onto a row of one's own -/
theorem wpList_append_str {ops : Array Oper} {rest : List Oper} {o : Oper} {a : Act} {w : World} {Q : Exit → Act → World → Prop} (hgd : o.guard = none) (sl x : Operand)
    (ho : o.op = .call { callee := .builtin .append, args := #[sl, x], argTypes := #[22, 9] }) (base n : Nat) (v : Value) (xs : List Nat) (s : ByteArray)
    (hs : a.eval sl = v) (hx : a.eval x = .string s) (hown : w.ownsRow base 5 1 v n (bcells xs)) (hbd : n + s.size ≤ 1000000) (hbase : base ≤ w.heap.size)
    (k : ∀ v' w', w'.ownsRow base 5 1 v' (n + s.size) (bcells (xs ++ strL s)) → w.grownBy w' v.ownBlock → wpList Tryd.prog ops Q rest (a.put o.dst v') w') :
    wpList Tryd.prog ops Q (o :: rest) a w := by
  obtain ⟨i, hi, hz, hsz, hby⟩ := byteInfo
  refine Lib.wpList_append_own_string w hgd sl x 22 9 ho base 5 i Tryd.underlying22 Tryd.underlying9 hi hz hsz hby v n (bcells xs) hs hown s hx (by unfold maxLen; omega) (by omega) hbase fun v' w' h1 h2 _ => k v' w' ?_ h2
  rw [bcells_append, ← strL_cells]; exact h1
/-- below a row of one's own -/
theorem under_own {B base n : Nat} {w0 w w' : World} {v : Value} {xs : List Value} (h : Below B w0 w) (hown : w.ownsRow base 5 1 v n xs) (hb : B ≤ base) (hg : w.grownBy w' v.ownBlock) (hB : B ≤ w.heap.size) : Below B w0 w' :=
  ⟨hg.os.trans h.os, hg.tape.trans h.tape, hg.output.trans h.output, Nat.le_trans h.size hg.size, fun i hi => (hg.block i (by omega) (by
    intro e
    rcases hown.2 with ⟨e1, _⟩ | ⟨g, c, cur, e1, hge, _⟩
    · rw [e1] at e; cases e
    · rw [e1] at e
      have : i = g := Option.some.inj e
      omega)).trans (h.block i hi)⟩
theorem two_rd (w : World) (z1 z2 : Int) (x y : Nat) (h1 : z1 = (x : Int)) (h2 : z2 = (y : Int)) (hx : x < 256) (hy : y < 256) {B : Nat} (hB : w.heap.size < B) : Rd (w.alloc (.cells #[.int .u8 z1, .int .u8 z2] 5)) B (some ⟨w.heap.size, 0, none⟩) [x, y] := by
  subst h1 h2
  exact const_rd w [x, y] (0, 0) (by intro v hv; simp only [List.mem_cons, List.not_mem_nil, or_false] at hv; rcases hv with rfl | rfl <;> assumption) hB
theorem two_lt (x : Nat) : ∀ j, gt (two x) j < 256 := gt_lt_of_mem (by intro v hv; unfold two at hv; simp only [List.mem_cons, List.not_mem_nil, or_false] at hv; omega)
theorem lenB_lt (x : Nat) : ∀ j, gt (lenB x) j < 256 := by
  unfold lenB; split
  · exact gt_lt_of_mem (by intro v hv; simp only [List.mem_cons, List.not_mem_nil, or_false] at hv; omega)
  · exact two_lt _
theorem lenB_len (x : Nat) : (lenB x).length ≤ 2 := by unfold lenB; split <;> simp [two]

/-- what an append of the program's own answers -/
def Owned (base : Nat) (n : Nat) (bs : List Nat) (w : World) (v0 : Value) (e : Ending) (w' : World) : Prop :=
  ∃ v, e = .returned v ∧ w'.ownsRow base 5 1 v n (bcells bs) ∧ Below base w w' ∧ (∀ r, v0.ownBlock = some r → True)

set_option maxHeartbeats 1000000 in
theorem two_any (base n x : Nat) (v : Value) (xs : List Nat) (w0 w : World) (hown : w.ownsRow base 5 1 v n (bcells xs)) (hxs : ∀ j, gt xs j < 256) (hbd : n ≤ 100000) (hx : x < 65536) (hb : Below base w0 w) (hbase : base ≤ w.heap.size) :
    Calls Tryd.prog 59 #[v, .int .i64 x] w fun e w' => ∃ v', e = .returned v' ∧ w'.ownsRow base 5 1 v' (n + 2) (bcells (xs ++ two x)) ∧ Below base w0 w' := by
  obtain ⟨A, c, rfl, hA, hnc, hc, hrd, hlen, hblk⟩ := own_slice hown hxs
  have HO := Lib.hid hown; have HB := Lib.hid hb
  clear hown hb hrd hlen hblk hA
  have x1 : IntKind.u8.wrap ((x : Int) / 256) = ((x / 256 % 256 : Nat) : Int) := by rw [IntKind.wrap_u8]; omega
  have x2 : IntKind.u8.wrap (x : Int) = ((x % 256 : Nat) : Int) := by rw [IntKind.wrap_u8]; omega
  have HA := Lib.hid ((Below.refl w.heap.size w).alloc (Nat.le_refl _) (.cells #[.int .u8 ((x : Int) / 256 % 256), .int .u8 ((x : Int) % 256)] 5))
  have HO2 := Lib.hid (own_gen HO.out HA.out)
  have HR := Lib.hid (two_rd w ((x : Int) / 256 % 256) ((x : Int) % 256) (x / 256 % 256) (x % 256) (by omega) (by omega) (by omega) (by omega) (B := w.heap.size + 1) (by omega))
  have HB2 := Lib.hid (HB.out.alloc hbase (.cells #[.int .u8 ((x : Int) / 256 % 256), .int .u8 ((x : Int) % 256)] 5))
  go_enter Tryd.func59, Tryd.ntmps59
  go_wp2_with (at_builtin; refine wpList_append_gen rfl (.tmp 5) (.tmp 11) rfl base n 2 2 (w.heap.size + 1) (.slice A n c) xs [x / 256 % 256, x % 256] (some ⟨w.heap.size, 0, none⟩) rfl rfl HO2.out HR.out rfl (fun e => by cases e) (by omega) (by simp; omega) ?_)
  intro v' w' h1 h2
  have HW := Lib.hid h1; have HB3 := Lib.hid (under_own HB2.out HO2.out (Nat.le_refl _) h2 (by simp; omega))
  clear h1 h2
  go_wp2
  go_ret
  exact ⟨v', rfl, HW.out, HB3.out⟩

set_option maxHeartbeats 1000000 in
theorem lenOf_any (base n x : Nat) (v : Value) (xs : List Nat) (w0 w : World) (hown : w.ownsRow base 5 1 v n (bcells xs)) (hxs : ∀ j, gt xs j < 256) (hbd : n ≤ 100000) (hx : x ≤ 16000) (hb : Below base w0 w) (hbase : base ≤ w.heap.size) :
    Calls Tryd.prog 60 #[v, .int .i64 x] w fun e w' => ∃ v', e = .returned v' ∧ w'.ownsRow base 5 1 v' (n + (lenB x).length) (bcells (xs ++ lenB x)) ∧ Below base w0 w' := by
  have hown0 := hown
  obtain ⟨A, c, rfl, hA, hnc, hc, hrd, hlen, hblk⟩ := own_slice hown hxs
  have HO := Lib.hid hown; have HB := Lib.hid hb; have HXS := Lib.hid hxs
  clear hown hown0 hb hrd hlen hblk hA hxs
  by_cases h64 : x < 64
  · have hl : lenB x = [x] := by unfold lenB; rw [if_pos h64]
    rw [hl]
    have y1 : (x : Int) < 64 := by omega
    have x2 : IntKind.u8.wrap (x : Int) = (x : Int) := by rw [IntKind.wrap_u8]; omega
    have HA := Lib.hid ((Below.refl w.heap.size w).alloc (Nat.le_refl _) (.cells #[.int .u8 (x : Int)] 5))
    have HO2 := Lib.hid (own_gen HO.out HA.out)
    have HR := Lib.hid (byte_rd w (x : Int) x rfl (by omega) (B := w.heap.size + 1) (by omega))
    have HB2 := Lib.hid (HB.out.alloc hbase (.cells #[.int .u8 (x : Int)] 5))
    go_enter Tryd.func60, Tryd.ntmps60
    go_wp2_with (at_builtin; refine wpList_append_gen rfl (.tmp 7) (.tmp 10) rfl base n 1 1 (w.heap.size + 1) (.slice A n c) xs [x] (some ⟨w.heap.size, 0, none⟩) rfl rfl HO2.out HR.out rfl (fun e => by cases e) (by omega) (by simp; omega) ?_)
    intro v' w' h1 h2
    have HW := Lib.hid h1; have HB3 := Lib.hid (under_own HB2.out HO2.out (Nat.le_refl _) h2 (by simp; omega))
    clear h1 h2
    go_wp2
    go_ret
    exact ⟨v', rfl, HW.out, HB3.out⟩
  · have hl : lenB x = two (x + 16384) := by unfold lenB; rw [if_neg h64]
    rw [hl]
    have y1 : ¬ (x : Int) < 64 := by omega
    have x2 : IntKind.i64.wrap ((x : Int) + 16384) = ((x + 16384 : Nat) : Int) := by rw [IntKind.wrap_i64]; omega
    go_enter Tryd.func60, Tryd.ntmps60
    go_wp2_with fail
    refine (two_any base n (x + 16384) (.slice A n c) xs w0 w HO.out HXS.out hbd (by omega) HB.out hbase).mono ?_
    rintro e' w' ⟨v', rfl, h1, h2⟩
    have HW := Lib.hid h1; have HB3 := Lib.hid h2
    clear h1 h2
    go_wp2
    go_ret
    exact ⟨v', rfl, HW.out, HB3.out⟩

end Go.Proofs.YtkplkfokpniflaaDoor.Sha

namespace Go.Proofs.YtkplkfokpniflaaDoor.Sha
set_option linter.all false
open Go.RowKit Iter

theorem front_str : strL ⟨#[71, 75, 65, 32, 49, 46, 48, 32]⟩ = front := by decide +kernel
theorem infoL_lt {l c : List Nat} (hl : ∀ j, gt l j < 256) (hc : ∀ j, gt c j < 256) (h40 : l.length ≤ 40) (n : Nat) : ∀ j, gt (infoL l c n) j < 256 :=
  gt_append_lt (two_lt n) (gt_append_lt (gt_lt_of_mem (by intro v hv; simp only [List.mem_cons, List.not_mem_nil, or_false] at hv; omega)) (gt_append_lt (gt_lt_of_mem (by decide)) (gt_append_lt hl (gt_append_lt (lenB_lt _) hc))))
theorem infoL_len (l c : List Nat) (n : Nat) : (infoL l c n).length = 2 + (1 + (8 + (l.length + ((lenB c.length).length + c.length)))) := by
  simp [infoL, two, front]; omega

set_option maxHeartbeats 2000000 in
set_option maxRecDepth 100000 in
theorem infoOf_any (s : ByteArray) (A2 : Option Addr) (b : List Nat) (nb cb x : Nat) (w : World) (hR : Rd w w.heap.size A2 b) (hn : b.length = nb) (hc : A2 = none → cb = 0) (hx : x ≤ 8160) (hs : s.size ≤ 40) (hb : nb ≤ 16000) :
    Calls Tryd.prog 51 #[.string s, .slice A2 nb cb, .int .i64 x] w fun e w' => ∃ v, e = .returned v ∧ w'.ownsRow w.heap.size 5 1 v (infoL (strL s) b x).length (bcells (infoL (strL s) b x)) ∧ Below w.heap.size w w' := by
  have HR := Lib.hid hR; have HN := Lib.hid (fun _ : Unit => hn); have HC := Lib.hid hc
  clear hR hn hc
  have x1 : IntKind.i64.wrap (8 + (s.size : Int)) = ((8 + s.size : Nat) : Int) := by rw [IntKind.wrap_i64]; omega
  have x2 : IntKind.u8.wrap ((8 + s.size : Nat) : Int) = ((8 + s.size : Nat) : Int) := by rw [IntKind.wrap_u8]; omega
  have x3 : (8 + (s.size : Int)) = ((8 + s.size : Nat) : Int) := by omega
  have HF := Lib.hid (fun _ : Unit => front_str)
  go_enter Tryd.func51, Tryd.ntmps51
  go_wp2_with fail
  refine (two_any w.heap.size 0 x (.slice none 0 0) [] w w (World.ownsRow_nil w _ _ _) (fun j => by simp [gt]) (by omega) (by omega) (Below.refl _ _) (Nat.le_refl _)).mono ?_
  rintro e' w1 ⟨v1, rfl, h1, hb1⟩
  obtain ⟨A1, c1, rfl, hA1, hnc1, hcm1, hrd1, hlen1, hblk1⟩ := own_slice h1 (two_lt x)
  have HO1 := Lib.hid h1; have HB1 := Lib.hid hb1
  clear h1 hb1 hA1 hnc1 hcm1 hrd1 hlen1 hblk1
  generalize hk : 8 + s.size = k at *
  have HK := Lib.hid (fun _ : Unit => hk); clear hk
  have hk48 : k ≤ 48 := by have := HK.out (); omega
  have HA := Lib.hid ((Below.refl w1.heap.size w1).alloc (Nat.le_refl _) (.cells #[.int .u8 (k : Int)] 5))
  have HO1a := Lib.hid (own_gen HO1.out HA.out)
  have HBy := Lib.hid (byte_rd w1 (k : Int) k rfl (by omega) (B := w1.heap.size + 1) (by omega))
  have HB1a := Lib.hid (HB1.out.alloc HB1.out.size (.cells #[.int .u8 (k : Int)] 5))
  go_wp2_with (at_builtin; refine wpList_append_gen rfl (.tmp 10) (.tmp 15) rfl w.heap.size (0 + 2) 1 1 (w1.heap.size + 1) (.slice A1 (0 + 2) c1) ([] ++ two x) [k] (some ⟨w1.heap.size, 0, none⟩) rfl rfl HO1a.out HBy.out rfl (fun e => by cases e) (by omega) (by have := HB1.out.size; simp; omega) ?_)
  intro v2 w2 h2 g2
  have hx2 := gt_append_lt (two_lt x) (gt_lt_of_mem (a := [k]) (by intro v hv; simp only [List.mem_cons, List.not_mem_nil, or_false] at hv; omega))
  have HW2 := Lib.hid h2; have HB2 := Lib.hid (under_own HB1a.out HO1a.out (Nat.le_refl _) g2 (by have := HB1.out.size; simp; omega))
  have HX2 := Lib.hid hx2
  clear h2 g2 hx2 HA HO1a HBy HB1a HO1 HB1
  obtain ⟨L2, hL2⟩ : ∃ L, two x ++ [k] = L := ⟨_, rfl⟩
  rw [hL2] at HW2 HX2
  have HL2 := Lib.hid (fun _ : Unit => hL2); clear hL2
  go_wp2_with (refine wpList_append_str rfl (.tmp 17) (.const (.string ⟨#[71, 75, 65, 32, 49, 46, 48, 32]⟩)) rfl w.heap.size 3 v2 L2 ⟨#[71, 75, 65, 32, 49, 46, 48, 32]⟩ rfl rfl HW2.out (by decide) HB2.out.size ?_)
  intro v3 w3 h3 g3
  rw [HF.out ()] at h3
  have HW3 := Lib.hid h3; have HB3 := Lib.hid (under_own HB2.out HW2.out (Nat.le_refl _) g3 HB2.out.size)
  have HX3 := Lib.hid (gt_append_lt HX2.out (gt_lt_of_mem (a := front) (by decide)))
  clear h3 g3
  obtain ⟨L3, hL3⟩ : ∃ L, L2 ++ front = L := ⟨_, rfl⟩
  rw [hL3] at HW3 HX3
  have HL3 := Lib.hid (fun _ : Unit => hL3); clear hL3
  go_wp2_with (refine wpList_append_str rfl (.tmp 19) (.tmp 20) rfl w.heap.size 11 v3 L3 s rfl rfl HW3.out (by omega) HB3.out.size ?_)
  intro v4 w4 h4 g4
  have HW4 := Lib.hid h4; have HB4 := Lib.hid (under_own HB3.out HW3.out (Nat.le_refl _) g4 HB3.out.size)
  have HX4 := Lib.hid (gt_append_lt HX3.out (strL_lt s))
  clear h4 g4
  obtain ⟨L4, hL4⟩ : ∃ L, L3 ++ strL s = L := ⟨_, rfl⟩
  rw [hL4] at HW4 HX4
  have HL4 := Lib.hid (fun _ : Unit => hL4); clear hL4
  obtain ⟨m4, hm4⟩ : ∃ m4, 11 + s.size = m4 := ⟨_, rfl⟩
  have hm4' : m4 ≤ 51 := by omega
  rw [hm4] at HW4
  have HM4 := Lib.hid (fun _ : Unit => hm4); clear hm4
  obtain ⟨A4, c4, rfl, hA4, hnc4, hcm4, hrd4, hlen4, hblk4⟩ := own_slice HW4.out HX4.out
  clear hA4 hnc4 hcm4 hrd4 hlen4 hblk4
  go_wp2_with fail
  refine (lenOf_any w.heap.size m4 nb (.slice A4 m4 c4) L4 w w4 HW4.out HX4.out (by omega) hb HB4.out HB4.out.size).mono ?_
  rintro e' w5 ⟨v5, rfl, h5, hb5⟩
  have HW5 := Lib.hid h5; have HB5 := Lib.hid hb5
  have HX5 := Lib.hid (gt_append_lt HX4.out (lenB_lt nb))
  have hl2 := lenB_len nb
  clear h5 hb5
  obtain ⟨L5, hL5⟩ : ∃ L, L4 ++ lenB nb = L := ⟨_, rfl⟩
  rw [hL5] at HW5 HX5
  have HL5 := Lib.hid (fun _ : Unit => hL5); clear hL5
  obtain ⟨m5, hm5⟩ : ∃ m5, m4 + (lenB nb).length = m5 := ⟨_, rfl⟩
  have hm5' : m5 ≤ 60 := by omega
  rw [hm5] at HW5
  have HM5 := Lib.hid (fun _ : Unit => hm5); clear hm5
  go_wp2_with (at_builtin; refine wpList_append_gen rfl (.tmp 26) (.tmp 27) rfl w.heap.size m5 nb cb w.heap.size v5 L5 b A2 rfl rfl HW5.out (HR.out.below HB5.out) (HN.out ()) HC.out (by omega) HB5.out.size ?_)
  intro v6 w6 h6 g6
  have HW6 := Lib.hid h6; have HB6 := Lib.hid (under_own HB5.out HW5.out (Nat.le_refl _) g6 HB5.out.size)
  clear h6 g6
  go_wp2
  go_ret
  have e : L5 ++ b = infoL (strL s) b x := by
    rw [← HL5.out (), ← HL4.out (), ← HL3.out (), ← HL2.out ()]
    unfold infoL; rw [strL_len, HK.out (), HN.out ()]; simp [List.append_assoc]
  have el : m5 + nb = (infoL (strL s) b x).length := by
    rw [infoL_len, strL_len, HN.out ()]; have := HM5.out (); have := HM4.out (); omega
  refine ⟨v6, rfl, ?_, HB6.out⟩
  rw [← el, ← e]
  exact HW6.out

set_option maxHeartbeats 1000000 in
theorem label_any (s : ByteArray) (A A2 : Option Addr) (key b : List Nat) (n c nb cb N : Nat) (w : World) (hT : Tables w) (hR : Rd w w.heap.size A key) (hn : key.length = n) (hnc : n ≤ c) (hc : c ≤ 9223372036854775807) (hm : n ≤ 100000)
    (hR2 : Rd w w.heap.size A2 b) (hn2 : b.length = nb) (hcb : A2 = none → cb = 0) (hN : N ≤ 8160) (hs : s.size ≤ 40) (hb : nb ≤ 16000) :
    Calls Tryd.prog 36 #[.slice A n c, .string s, .slice A2 nb cb, .int .i64 N] w fun e w' => ∃ h, e = .returned (.slice (some ⟨h, 0, none⟩) N N) ∧ w'.ownsRow w.heap.size 5 1 (.slice (some ⟨h, 0, none⟩) N N) N (bcells (expand key (infoL (strL s) b N) N)) ∧ Below w.heap.size w w' := by
  have h2 := hT.lt
  have HT := Lib.hid hT; have HR := Lib.hid hR; have HN := Lib.hid (fun _ : Unit => hn); have HR2 := Lib.hid hR2; have HN2 := Lib.hid (fun _ : Unit => hn2); have HC := Lib.hid hcb
  clear hT hR hn hR2 hn2 hcb
  have hdec : decide ((0 : Int) ≤ (N : Int) ∧ (N : Int) ≤ 8160) = true := decide_eq_true ⟨by omega, by omega⟩
  have y1 : ¬ (40 : Int) < (s.size : Int) := by omega
  have y2 : ¬ (16000 : Int) < (nb : Int) := by omega
  have hl : (infoL (strL s) b N).length ≤ 17000 := by
    rw [infoL_len, strL_len, HN2.out ()]; have := lenB_len nb; omega
  have HX := Lib.hid (infoL_lt (n := N) (strL_lt s) HR2.out.1 (by rw [strL_len]; exact hs))
  obtain ⟨info, hinfo⟩ : ∃ i, infoL (strL s) b N = i := ⟨_, rfl⟩
  rw [hinfo] at hl HX ⊢
  have HIN := Lib.hid (fun _ : Unit => hinfo); clear hinfo
  go_enter Tryd.func36, Tryd.ntmps36
  go_wp2_with fail
  refine (asked_any _ _).mono ?_
  rintro e' w1 ⟨rfl, rfl⟩
  rw [hdec]
  clear hdec
  go_wp2_with fail
  refine (infoOf_any s A2 b nb cb N w HR2.out (HN2.out ()) HC.out hN hs hb).mono ?_
  rintro e' w2 ⟨v2, rfl, h2', hb2⟩
  rw [HIN.out ()] at h2'
  obtain ⟨A3, c3, rfl, hA3, hnc3, hcm3, hrd3, hlen3, hblk3⟩ := own_slice h2' HX.out
  have HRD := Lib.hid hrd3; have HB2 := Lib.hid hb2
  clear h2' hb2 hA3 hrd3 hlen3 hblk3
  generalize hil : info.length = ni at *
  have HIL := Lib.hid (fun _ : Unit => hil); clear hil
  go_wp2_with fail
  refine (expand_any A A3 key info n c ni c3 N w2 (HT.out.below HB2.out h2) ((HR.out.below HB2.out).more HB2.out.size) (HN.out ()) hnc hc hm HRD.out (HIL.out ()) hnc3 hcm3 (by omega) hN).mono ?_
  rintro e' w3 ⟨h3, rfl, hown3, hb3⟩
  have HO3 := Lib.hid hown3; have HB3 := Lib.hid (HB2.out.trans (hb3.mono HB2.out.size))
  clear hown3 hb3
  go_wp2
  go_ret
  exact ⟨h3, rfl, own_lower HO3.out HB2.out.size, HB3.out⟩

end Go.Proofs.YtkplkfokpniflaaDoor.Sha
