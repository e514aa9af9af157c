/- Walks: infoOf, Label. -/
import Derived.Test.YtfcnhendebjjeaaDoorHkWalkH
import Derived.Lib.AppendStr
namespace Go.Proofs.YtfcnhendebjjeaaDoor.Sha
set_option linter.all false
open Go.RowKit Iter

/-- a string's bytes -/
def strL (s : ByteArray) : List Nat := s.data.toList.map UInt8.toNat
theorem strL_len (s : ByteArray) : (strL s).length = s.size := by
  unfold strL; rw [List.length_map, Array.length_toList]; rfl
theorem strL_lt (s : ByteArray) : ∀ j, gt (strL s) j < 256 := gt_lt_of_mem (by
  intro x hx
  obtain ⟨b, _, rfl⟩ := List.mem_map.1 hx
  exact b.toNat_lt)
theorem strL_cells (s : ByteArray) : Lib.strCells s = bcells (strL s) := by
  unfold Lib.strCells bcells strL; rw [List.map_map]; rfl
/-- append of a string onto a row of one's own -/
theorem wpList_append_str {ops : Array Oper} {rest : List Oper} {o : Oper} {a : Act} {w : World} {Q : Exit → Act → World → Prop} (hgd : o.guard = none) (sl x : Operand)
    (ho : o.op = .call { callee := .builtin .append, args := #[sl, x], argTypes := #[22, 9] }) (base n : Nat) (v : Value) (xs : List Nat) (s : ByteArray)
    (hs : a.eval sl = v) (hx : a.eval x = .string s) (hown : w.ownsRow base 5 1 v n (bcells xs)) (hbd : n + s.size ≤ 1000000) (hbase : base ≤ w.heap.size)
    (k : ∀ v' w', w'.ownsRow base 5 1 v' (n + s.size) (bcells (xs ++ strL s)) → w.grownBy w' v.ownBlock → wpList Tryd.prog ops Q rest (a.put o.dst v') w') :
    wpList Tryd.prog ops Q (o :: rest) a w := by
  obtain ⟨i, hi, hz, hsz, hby⟩ := byteInfo
  refine Lib.wpList_append_own_string w hgd sl x 22 9 ho base 5 i Tryd.underlying22 Tryd.underlying9 hi hz hsz hby v n (bcells xs) hs hown s hx (by unfold maxLen; omega) (by omega) hbase fun v' w' h1 h2 _ => k v' w' ?_ h2
  rw [bcells_append, ← strL_cells]; exact h1
/-- below a row of one's own -/
theorem under_own {B base n : Nat} {w0 w w' : World} {v : Value} {xs : List Value} (h : Below B w0 w) (hown : w.ownsRow base 5 1 v n xs) (hb : B ≤ base) (hg : w.grownBy w' v.ownBlock) (hB : B ≤ w.heap.size) : Below B w0 w' :=
  ⟨hg.os.trans h.os, hg.tape.trans h.tape, hg.output.trans h.output, Nat.le_trans h.size hg.size, fun i hi => (hg.block i (by omega) (by
    intro e
    rcases hown.2 with ⟨e1, _⟩ | ⟨g, c, cur, e1, hge, _⟩
    · rw [e1] at e; cases e
    · rw [e1] at e
      have : i = g := Option.some.inj e
      omega)).trans (h.block i hi)⟩
theorem two_rd (w : World) (z1 z2 : Int) (x y : Nat) (h1 : z1 = (x : Int)) (h2 : z2 = (y : Int)) (hx : x < 256) (hy : y < 256) {B : Nat} (hB : w.heap.size < B) : Rd (w.alloc (.cells #[.int .u8 z1, .int .u8 z2] 5)) B (some ⟨w.heap.size, 0, none⟩) [x, y] := by
  subst h1 h2
  exact const_rd w [x, y] (0, 0) (by intro v hv; simp only [List.mem_cons, List.not_mem_nil, or_false] at hv; rcases hv with rfl | rfl <;> assumption) hB
theorem two_lt (x : Nat) : ∀ j, gt (two x) j < 256 := gt_lt_of_mem (by intro v hv; unfold two at hv; simp only [List.mem_cons, List.not_mem_nil, or_false] at hv; omega)
theorem lenB_lt (x : Nat) : ∀ j, gt (lenB x) j < 256 := by
  unfold lenB; split
  · exact gt_lt_of_mem (by intro v hv; simp only [List.mem_cons, List.not_mem_nil, or_false] at hv; omega)
  · exact two_lt _
theorem lenB_len (x : Nat) : (lenB x).length ≤ 2 := by unfold lenB; split <;> simp [two]

/-- what an append of the program's own answers -/
def Owned (base : Nat) (n : Nat) (bs : List Nat) (w : World) (v0 : Value) (e : Ending) (w' : World) : Prop :=
  ∃ v, e = .returned v ∧ w'.ownsRow base 5 1 v n (bcells bs) ∧ Below base w w' ∧ (∀ r, v0.ownBlock = some r → True)

set_option maxHeartbeats 1000000 in
theorem two_any (base n x : Nat) (v : Value) (xs : List Nat) (w0 w : World) (hown : w.ownsRow base 5 1 v n (bcells xs)) (hxs : ∀ j, gt xs j < 256) (hbd : n ≤ 100000) (hx : x < 65536) (hb : Below base w0 w) (hbase : base ≤ w.heap.size) :
    Calls Tryd.prog 31 #[v, .int .i64 x] w fun e w' => ∃ v', e = .returned v' ∧ w'.ownsRow base 5 1 v' (n + 2) (bcells (xs ++ two x)) ∧ Below base w0 w' := by
  obtain ⟨A, c, rfl, hA, hnc, hc, hrd, hlen, hblk⟩ := own_slice hown hxs
  have HO := Lib.hid hown; have HB := Lib.hid hb
  clear hown hb hrd hlen hblk hA
  have x1 : IntKind.u8.wrap ((x : Int) / 256) = ((x / 256 % 256 : Nat) : Int) := by rw [IntKind.wrap_u8]; omega
  have x2 : IntKind.u8.wrap (x : Int) = ((x % 256 : Nat) : Int) := by rw [IntKind.wrap_u8]; omega
  have HA := Lib.hid ((Below.refl w.heap.size w).alloc (Nat.le_refl _) (.cells #[.int .u8 ((x : Int) / 256 % 256), .int .u8 ((x : Int) % 256)] 5))
  have HO2 := Lib.hid (own_gen HO.out HA.out)
  have HR := Lib.hid (two_rd w ((x : Int) / 256 % 256) ((x : Int) % 256) (x / 256 % 256) (x % 256) (by omega) (by omega) (by omega) (by omega) (B := w.heap.size + 1) (by omega))
  have HB2 := Lib.hid (HB.out.alloc hbase (.cells #[.int .u8 ((x : Int) / 256 % 256), .int .u8 ((x : Int) % 256)] 5))
  go_enter Tryd.func31, Tryd.ntmps31
  go_wp2_with (at_builtin; refine wpList_append_gen rfl (.tmp 5) (.tmp 11) rfl base n 2 2 (w.heap.size + 1) (.slice A n c) xs [x / 256 % 256, x % 256] (some ⟨w.heap.size, 0, none⟩) rfl rfl HO2.out HR.out rfl (fun e => by cases e) (by omega) (by simp; omega) ?_)
  intro v' w' h1 h2
  have HW := Lib.hid h1; have HB3 := Lib.hid (under_own HB2.out HO2.out (Nat.le_refl _) h2 (by simp; omega))
  clear h1 h2
  go_wp2
  go_ret
  exact ⟨v', rfl, HW.out, HB3.out⟩

set_option maxHeartbeats 1000000 in
theorem lenOf_any (base n x : Nat) (v : Value) (xs : List Nat) (w0 w : World) (hown : w.ownsRow base 5 1 v n (bcells xs)) (hxs : ∀ j, gt xs j < 256) (hbd : n ≤ 100000) (hx : x ≤ 16000) (hb : Below base w0 w) (hbase : base ≤ w.heap.size) :
    Calls Tryd.prog 32 #[v, .int .i64 x] w fun e w' => ∃ v', e = .returned v' ∧ w'.ownsRow base 5 1 v' (n + (lenB x).length) (bcells (xs ++ lenB x)) ∧ Below base w0 w' := by
  have hown0 := hown
  obtain ⟨A, c, rfl, hA, hnc, hc, hrd, hlen, hblk⟩ := own_slice hown hxs
  have HO := Lib.hid hown; have HB := Lib.hid hb; have HXS := Lib.hid hxs
  clear hown hown0 hb hrd hlen hblk hA hxs
  by_cases h64 : x < 64
  · have hl : lenB x = [x] := by unfold lenB; rw [if_pos h64]
    rw [hl]
    have y1 : (x : Int) < 64 := by omega
    have x2 : IntKind.u8.wrap (x : Int) = (x : Int) := by rw [IntKind.wrap_u8]; omega
    have HA := Lib.hid ((Below.refl w.heap.size w).alloc (Nat.le_refl _) (.cells #[.int .u8 (x : Int)] 5))
    have HO2 := Lib.hid (own_gen HO.out HA.out)
    have HR := Lib.hid (byte_rd w (x : Int) x rfl (by omega) (B := w.heap.size + 1) (by omega))
    have HB2 := Lib.hid (HB.out.alloc hbase (.cells #[.int .u8 (x : Int)] 5))
    go_enter Tryd.func32, Tryd.ntmps32
    go_wp2_with (at_builtin; refine wpList_append_gen rfl (.tmp 7) (.tmp 10) rfl base n 1 1 (w.heap.size + 1) (.slice A n c) xs [x] (some ⟨w.heap.size, 0, none⟩) rfl rfl HO2.out HR.out rfl (fun e => by cases e) (by omega) (by simp; omega) ?_)
    intro v' w' h1 h2
    have HW := Lib.hid h1; have HB3 := Lib.hid (under_own HB2.out HO2.out (Nat.le_refl _) h2 (by simp; omega))
    clear h1 h2
    go_wp2
    go_ret
    exact ⟨v', rfl, HW.out, HB3.out⟩
  · have hl : lenB x = two (x + 16384) := by unfold lenB; rw [if_neg h64]
    rw [hl]
    have y1 : ¬ (x : Int) < 64 := by omega
    have x2 : IntKind.i64.wrap ((x : Int) + 16384) = ((x + 16384 : Nat) : Int) := by rw [IntKind.wrap_i64]; omega
    go_enter Tryd.func32, Tryd.ntmps32
    go_wp2_with fail
    refine (two_any base n (x + 16384) (.slice A n c) xs w0 w HO.out HXS.out hbd (by omega) HB.out hbase).mono ?_
    rintro e' w' ⟨v', rfl, h1, h2⟩
    have HW := Lib.hid h1; have HB3 := Lib.hid h2
    clear h1 h2
    go_wp2
    go_ret
    exact ⟨v', rfl, HW.out, HB3.out⟩

end Go.Proofs.YtfcnhendebjjeaaDoor.Sha
