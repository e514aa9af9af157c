/- What the rows' proofs share: the tables out of the laid list, a world for the witness, slices of bytes that came in. Walks: HkdfBeginnings. Walks: HkdfParts. The document's own: long, Info. Plain mathematics and strings for HkdfInfos: infos of unlike labels, contexts or lengths are unlike; bytes as strings. -/
import Derived.Test.YtkplkfokpniflaaDoorHkM3
import Derived.Test.YtkplkfokpniflaaDoorCards
import Derived.Test.YtkplkfokpniflaaDoorTie
import Derived.ProofKit
import Derived.OpenShut
import Derived.ShutString
import Derived.ChangeOld
import Derived.Below
import Derived.Deep.DeepHandedRow
import Derived.Lib.LaidTab
import Derived.LaidSub
import Derived.IntWalk
import Derived.Deep.RegionHeld3
import Derived.Laws.IdiomStrings
namespace Go.Proofs.YtkplkfokpniflaaDoor.Sha
set_option linter.all false
open Go.ChangeShapes Go.WideShapes Go.ChangeAt Go.RowKit

theorem own : ownKnob Tryd.prog.godebug = none := by kernel_rfl
theorem laidOut : laidOutB Tryd.prog = true := by kernel_rfl
def laidList : List (String × DataW Unit) := [("sodality/sha2.firstState", Rows.laid_sodality_sha2_firstState), ("sodality/sha2.roundConstants", Rows.laid_sodality_sha2_roundConstants)]

theorem gFirst : Tryd.prog.globalNamed "sodality/sha2.firstState" = some 1 := by kernel_rfl
theorem gRounds : Tryd.prog.globalNamed "sodality/sha2.roundConstants" = some 2 := by kernel_rfl

theorem tabAt_of_is {W : World} {name : String} {g : Nat} {k : IntKind} {l : List Nat} (hg : Tryd.prog.globalNamed name = some g) (h : Lib.TabIs Tryd.prog W name k (l.map fun x => ((x : Nat) : Int))) : TabAt W g k l := by
  unfold Lib.TabIs World.var? at h
  rw [hg] at h
  simp only [Option.bind_some] at h
  split at h
  · rename_i cs t fr hb
    refine ⟨t, fr, ?_⟩
    rw [hb]
    have e : cs = numsOf k l := by
      have := Option.some.inj h
      rw [this]; simp [numsOf, List.map_map, Function.comp_def]
    rw [e]
  · cases h

theorem tables_of {W : World} (h : laidMetH Tryd.prog laidList W) (hG : 3 ≤ W.heap.size) : Tables W := by
  have h0 : laidMet Tryd.prog laidList W := h
  have h1 : laidMet Tryd.prog [("sodality/sha2.firstState", Rows.laid_sodality_sha2_firstState)] W := h0.filter (fun x => x.1 == "sodality/sha2.firstState")
  have h2 : laidMet Tryd.prog [("sodality/sha2.roundConstants", Rows.laid_sodality_sha2_roundConstants)] W := h0.filter (fun x => x.1 == "sodality/sha2.roundConstants")
  exact ⟨hG, tabAt_of_is gFirst (Lib.tabIs_of_head (rest := []) gFirst (t := 107) (by kernel_rfl) Tryd.underlying107 Tryd.underlying91 (by kernel_rfl) (by kernel_rfl) h1),
    tabAt_of_is gRounds (Lib.tabIs_of_head (rest := []) gRounds (t := 96) (by kernel_rfl) Tryd.underlying96 Tryd.underlying91 (by kernel_rfl) (by kernel_rfl) h2)⟩

/-- a world for the witness: the settled one, the tables as their initialisers lay them -/
noncomputable def laidWorld (os : Os) : World :=
  let w := World.holding Tryd.prog os ⟨#[], #[], []⟩
  { w with heap := (w.heap.modify 1 fun | .cells _ t fr => .cells (numsOf .u32 firstT) t fr | o => o).modify 2 fun | .cells _ t fr => .cells (numsOf .u32 consT) t fr | o => o }
theorem laid_met (os : Os) (args : Array Value) : laidMet Tryd.prog laidList ((laidWorld os).forCall (fun _ _ => 0) ⟨#[], args, []⟩).memory :=
  laidMet_of_run' 8 (by kernel_rfl) (by kernel_rfl)

/-- a slice of bytes that came in -/
def IsRow (k : IntKind) (w : World) (a : Option Addr) (len cap : Nat) (zs : List Int) : Prop :=
  (a = none ∧ len = 0 ∧ cap = 0 ∧ zs = []) ∨
  ∃ x, a = some x ∧ len ≤ cap ∧ cap ≤ maxLen ∧ zs.length = cap ∧ (∀ i, i < zs.length → w.cell? (x.add i) = some (.int k (zs.getD i 0))) ∧ ∀ n ∈ zs, (Lit.int k n).wf = true
def bytesOf (zs : List Int) (len : Nat) : List Nat := (zs.take len).map Int.toNat
theorem rd_of_row {w : World} {a : Option Addr} {len cap : Nat} {zs : List Int} (h : IsRow .u8 w a len cap zs) :
    Rd w w.heap.size a (bytesOf zs len) ∧ (bytesOf zs len).length = len ∧ len ≤ cap ∧ cap ≤ 9223372036854775807 ∧ (a = none → cap = 0) := by
  rcases h with ⟨rfl, rfl, rfl, rfl⟩ | ⟨x, rfl, h1, h2, h3, h4, h5⟩
  · exact ⟨Rd.nil _ _ _, rfl, by omega, by omega, fun _ => rfl⟩
  · have hlen : (bytesOf zs len).length = len := by simp [bytesOf]; omega
    have hb : ∀ n ∈ zs, 0 ≤ n ∧ n < 256 := fun n hn => by
      have := h5 n hn
      simp [Lit.wf, IntKind.min, IntKind.max, IntKind.bits, IntKind.signed] at this
      omega
    have hat : ∀ j, j < len → zs.getD j 0 ∈ zs := fun j hj => by
      rw [List.getD_eq_getElem?_getD, List.getElem?_eq_getElem (by omega)]; exact List.getElem_mem _
    have hg : ∀ j, j < len → gt (bytesOf zs len) j = (zs.getD j 0).toNat := fun j hj => by
      unfold gt bytesOf
      rw [List.getD_eq_getElem?_getD, List.getD_eq_getElem?_getD, List.getElem?_map, List.getElem?_take_of_lt hj, List.getElem?_eq_getElem (by omega)]; rfl
    refine ⟨⟨fun j => ?_, fun hn => ⟨x, rfl, ?_, fun j hj => ?_⟩⟩, hlen, h1, by unfold maxLen at h2; omega, fun e => by cases e⟩
    · by_cases hj : j < len
      · rw [hg j hj]; have := hb _ (hat j hj); omega
      · rw [gt_ge _ _ (by omega)]; omega
    · rw [hlen] at hn
      have := h4 0 (by omega)
      have hlt := block_lt_of_cell this
      unfold Addr.add at hlt
      simpa using hlt
    · rw [hlen] at hj
      rw [h4 j (by omega), hg j hj]
      have := hb _ (hat j hj)
      congr 2
      omega

theorem byte_of_wf {x : Int} (h : (Lit.int .u8 x).wf = true) : ∃ k : Nat, x = k ∧ k < 256 := by
  simp [Lit.wf, IntKind.min, IntKind.max, IntKind.bits, IntKind.signed] at h
  exact ⟨x.toNat, by omega, by omega⟩

end Go.Proofs.YtkplkfokpniflaaDoor.Sha

namespace Go.Proofs.YtkplkfokpniflaaDoor.Sha
set_option linter.all false
open Go.RowKit Iter
attribute [local go_sem ↓] Go.wp_at_zero Go.wp_at_succ

theorem slice_to (g n c m : Nat) (hm : m ≤ n) (hnc : n ≤ c) (w : World) : (Instr.slice 22 (.slice (some ⟨g, 0, none⟩) n c) none (some (.int .i64 (m : Int))) none).run Tryd.prog w = .ok (.slice (some ⟨g, 0, none⟩) m c) w := by
  have h1 : Tryd.prog.underlying 22 = some (.slice (Tryd.prog.elem 22)) := by kernel_rfl
  have h3 : Tryd.prog.elem 22 = 5 := by kernel_rfl
  have h4 : (Tryd.prog.info? 5).map (·.size) = some 1 := by kernel_rfl
  cases hq : Tryd.prog.info? 5 with
  | none => simp [hq] at h4
  | some i =>
    have hs1 : i.size = 1 := by simpa [hq] using h4
    rw [run_slice_h (a := some ⟨g, 0, none⟩) (len := n) (cap := c) (w := w) (t := 22) (ht := h1) .i64 (m : Int) (by omega) (by omega), h3]
    have e4 : (⟨g, 0, none⟩ : Addr).add 0 = ⟨g, 0, none⟩ := rfl
    simp [sizeOf, typeInfo, hq, hs1, sliced, e4]

end Go.Proofs.YtkplkfokpniflaaDoor.Sha

namespace Go.Proofs.YtkplkfokpniflaaDoor.Sha
set_option linter.all false
open Go.RowKit Iter
attribute [local go_sem ↓] Go.wp_at_zero Go.wp_at_succ

theorem nil_own (w : World) {base : Nat} (h : base ≤ w.heap.size) : (w.alloc (.cells #[] 5)).ownsRow base 5 1 (.slice (some ⟨w.heap.size, 0, none⟩) 0 0) 0 (bcells []) := World.ownsRow_made w #[] 0 h (by unfold maxLen; omega) rfl
theorem upto_succ (k info : List Nat) (i : Nat) : upto k info (i + 1) = upto k info i ++ piece k info (i + 1) := rfl
theorem piece_succ (k info : List Nat) (i : Nat) : piece k info (i + 1) = tag k (piece k info i ++ (info ++ [i + 1])) := rfl
theorem piece_one (k info : List Nat) : piece k info 1 = tag k (info ++ [1]) := by
  have h := piece_succ k info 0
  rw [show piece k info 0 = [] from rfl, List.nil_append] at h
  exact h
theorem piece_two (k info : List Nat) : piece k info 2 = tag k (tag k (info ++ [1]) ++ (info ++ [2])) := by
  have h := piece_succ k info 1
  rw [piece_one] at h
  exact h
theorem upto_two (k info : List Nat) : upto k info 2 = tag k (info ++ [1]) ++ tag k (tag k (info ++ [1]) ++ (info ++ [2])) := by
  have h0 : upto k info 1 = piece k info 1 := by
    have h := upto_succ k info 0
    rw [show upto k info 0 = [] from rfl, List.nil_append] at h
    exact h
  have h1 := upto_succ k info 1
  rw [h0, piece_one, show 1 + 1 = 2 from rfl, piece_two] at h1
  exact h1
theorem mac_tag (key t : List Nat) : mac key t = tag (blockK key) t := rfl
theorem expand_two (key info : List Nat) : expand key info 64 = mac key (info ++ [1]) ++ mac key (mac key (info ++ [1]) ++ (info ++ [2])) := by
  unfold expand
  rw [expand_take (i := 2) (by omega) (by omega), List.take_of_length_le (by rw [upto_len]; omega), upto_two, mac_tag, mac_tag]

end Go.Proofs.YtkplkfokpniflaaDoor.Sha

namespace Go.Proofs.YtkplkfokpniflaaDoor.Sha
set_option linter.all false
open Go.RowKit Iter

theorem made_own (w : World) (bs : List Nat) (n : Nat) (hn : bs.length = n) (hm : n ≤ maxLen) {base : Nat} (h : base ≤ w.heap.size) : (w.alloc (.cells (bcells bs).toArray 5)).ownsRow base 5 1 (.slice (some ⟨w.heap.size, 0, none⟩) n n) n (bcells bs) :=
  own_of_row (rowIs_words (k := .u8) (heap_alloc_last w _) hn) hn hm h
theorem strL_append (s t : ByteArray) : strL (s ++ t) = strL s ++ strL t := by
  unfold strL; rw [ByteArray.data_append, Array.toList_append, List.map_append]
theorem run_str_bytes (w : World) (s : ByteArray) (hs : s.size ≤ 1000000) : ∃ c w', s.size ≤ c ∧ c ≤ 9223372036854775807 ∧ (convert 9 22 (.string s)).run Tryd.prog w = .ok (.slice (some ⟨w.heap.size, 0, none⟩) s.size c) w' ∧ Below w.heap.size w w' ∧ w'.heap.size = w.heap.size + 1 ∧ Rd w' (w.heap.size + 1) (some ⟨w.heap.size, 0, none⟩) (strL s) := by
  refine ⟨_, _, grownCap_ge w s.size 0 5, ?_, run_bytes_of_string (P := Tryd.prog) w 9 22 5 s Tryd.underlying9 Tryd.underlying22 Tryd.underlying5, (Below.refl w.heap.size w).drew.alloc (by simp) _, by simp, strL_lt s, fun _ => ⟨_, rfl, by show w.heap.size < _; omega, fun j hj => ?_⟩⟩
  · have := grownCap_le_maxLen w s.size 0 5 (by unfold maxLen; omega)
    unfold maxLen at this; omega
  · rw [strL_len] at hj
    have ha : (⟨w.heap.size, 0, none⟩ : Addr).add j = ⟨w.heap.size, j, none⟩ := by unfold Addr.add; split <;> simp_all
    have hl := heap_alloc_last w.drew (.cells (bytesRow s (grownCap w s.size 0 5)) 5 ((bytesRow s (grownCap w s.size 0 5)).size, (bytesRow s (grownCap w s.size 0 5)).size + 1))
    have hj' : j < s.data.size := hj
    rw [ha, cell_of_row _ w.heap.size j _ 5 _ hl, bytesRow_at s _ j hj']
    congr 2
    unfold gt strL
    rw [List.getD_eq_getElem?_getD, List.getElem?_map, Array.getElem?_toList, Array.getElem?_eq_getElem hj']; rfl

set_option maxHeartbeats 2000000 in
set_option maxRecDepth 100000 in
theorem long_any (A : Option Addr) (b : List Nat) (n c : Nat) (w : World) (hR : Rd w w.heap.size A b) (hn : b.length = n) (hc : A = none → c = 0) (hb : n ≤ 16000) :
    Calls Tryd.prog 52 #[.slice A n c] w fun e w' => ∃ h cp, e = .returned (.slice (some ⟨h, 0, none⟩) ((lenB n).length + n) cp) ∧ w'.ownsRow w.heap.size 5 1 (.slice (some ⟨h, 0, none⟩) ((lenB n).length + n) cp) ((lenB n).length + n) (bcells (lenB n ++ b)) ∧ Below w.heap.size w w' := by
  have HR := Lib.hid hR; have HN := Lib.hid (fun _ : Unit => hn); have HC := Lib.hid hc
  clear hR hn hc
  by_cases h64 : n < 64
  · have hl : lenB n = [n] := by unfold lenB; rw [if_pos h64]
    rw [hl]
    have y1 : (n : Int) < 64 := by omega
    have x2 : IntKind.u8.wrap (n : Int) = (n : Int) := by rw [IntKind.wrap_u8]; omega
    have HO := Lib.hid (made_own w [n] 1 rfl (by unfold maxLen; omega) (Nat.le_refl _))
    have HB := Lib.hid ((Below.refl w.heap.size w).alloc (Nat.le_refl _) (.cells #[.int .u8 (n : Int)] 5))
    have HR1 := Lib.hid (HR.out.below HB.out)
    go_enter Tryd.func52, Tryd.ntmps52
    go_wp2_with (at_builtin; refine wpList_append_rd rfl (.tmp 10) (.tmp 11) rfl w.heap.size w.heap.size 1 1 n c w.heap.size [n] b A rfl rfl HO.out HR1.out (HN.out ()) HC.out (by omega) (by simp) ?_)
    intro g' cap' w' h1 h2 _
    have HW := Lib.hid h1; have HB3 := Lib.hid (below_of_only HB.out h2 (Nat.le_refl _))
    clear h1 h2
    go_wp2
    go_ret
    exact ⟨g', cap', rfl, HW.out, HB3.out⟩
  · have hl : lenB n = two (n + 16384) := by unfold lenB; rw [if_neg h64]
    rw [hl]
    have y1 : ¬ (n : Int) < 64 := by omega
    have x0 : IntKind.i64.wrap ((n : Int) + 16384) = ((n + 16384 : Nat) : Int) := by rw [IntKind.wrap_i64]; omega
    have x9 : (n : Int) + 16384 = ((n + 16384 : Nat) : Int) := by omega
    obtain ⟨m, hm⟩ : ∃ m, n + 16384 = m := ⟨_, rfl⟩
    rw [hm] at x0 x9 ⊢
    have hm' : m ≤ 40000 := by omega
    clear hm
    have x1 : IntKind.u8.wrap ((m : Int) / 256) = ((m / 256 % 256 : Nat) : Int) := by rw [IntKind.wrap_u8]; omega
    have x2 : IntKind.u8.wrap (m : Int) = ((m % 256 : Nat) : Int) := by rw [IntKind.wrap_u8]; omega
    have HO : Hid ((w.alloc (.cells #[.int .u8 ((m : Int) / 256 % 256), .int .u8 ((m : Int) % 256)] 5)).ownsRow w.heap.size 5 1 (.slice (some ⟨w.heap.size, 0, none⟩) 2 2) 2 (bcells (two m))) := Lib.hid (by
      have e1 : ((m : Int) / 256 % 256) = ((m / 256 % 256 : Nat) : Int) := by omega
      have e2 : ((m : Int) % 256) = ((m % 256 : Nat) : Int) := by omega
      rw [e1, e2]
      exact made_own w (two m) 2 rfl (by unfold maxLen; omega) (Nat.le_refl _))
    have HB := Lib.hid ((Below.refl w.heap.size w).alloc (Nat.le_refl _) (.cells #[.int .u8 ((m : Int) / 256 % 256), .int .u8 ((m : Int) % 256)] 5))
    have HR1 := Lib.hid (HR.out.below HB.out)
    go_enter Tryd.func52, Tryd.ntmps52
    go_wp2_with (at_builtin; refine wpList_append_rd rfl (.tmp 21) (.tmp 22) rfl w.heap.size w.heap.size 2 2 n c w.heap.size (two m) b A rfl rfl HO.out HR1.out (HN.out ()) HC.out (by omega) (by simp) ?_)
    intro g' cap' w' h1 h2 _
    have HW := Lib.hid h1; have HB3 := Lib.hid (below_of_only HB.out h2 (Nat.le_refl _))
    clear h1 h2
    go_wp2
    go_ret
    exact ⟨g', cap', rfl, HW.out, HB3.out⟩

set_option maxHeartbeats 2000000 in
set_option maxRecDepth 100000 in
theorem rinfo_any (s : ByteArray) (A2 : Option Addr) (b : List Nat) (nb cb x : Nat) (w : World) (hR : Rd w w.heap.size A2 b) (hn : b.length = nb) (hc : A2 = none → cb = 0) (hx : x ≤ 8160) (hs : s.size ≤ 40) (hb : nb ≤ 16000) :
    Calls Tryd.prog 37 #[.string s, .slice A2 nb cb, .int .i64 x] w fun e w' => ∃ h n cp, e = .returned (.slice (some ⟨h, 0, none⟩) n cp) ∧ n = (infoL (strL s) b x).length ∧ w'.ownsRow w.heap.size 5 1 (.slice (some ⟨h, 0, none⟩) n cp) n (bcells (infoL (strL s) b x)) ∧ Below w.heap.size w w' := by
  have HR := Lib.hid hR; have HN := Lib.hid (fun _ : Unit => hn); have HC := Lib.hid hc
  clear hR hn hc
  have y0 : ¬ (x : Int) < 0 := by omega
  have y1 : ¬ (8160 : Int) < (x : Int) := by omega
  have y2 : ¬ (40 : Int) < (s.size : Int) := by omega
  have y3 : ¬ (16000 : Int) < (nb : Int) := by omega
  have x1 : IntKind.u8.wrap ((x : Int) / 256) = ((x / 256 % 256 : Nat) : Int) := by rw [IntKind.wrap_u8]; omega
  have x2 : IntKind.u8.wrap (x : Int) = ((x % 256 : Nat) : Int) := by rw [IntKind.wrap_u8]; omega
  have HO : Hid ((w.alloc (.cells #[.int .u8 ((x : Int) / 256 % 256), .int .u8 ((x : Int) % 256)] 5)).ownsRow w.heap.size 5 1 (.slice (some ⟨w.heap.size, 0, none⟩) 2 2) 2 (bcells (two x))) := Lib.hid (by
    have e1 : ((x : Int) / 256 % 256) = ((x / 256 % 256 : Nat) : Int) := by omega
    have e2 : ((x : Int) % 256) = ((x % 256 : Nat) : Int) := by omega
    rw [e1, e2]
    exact made_own w (two x) 2 rfl (by unfold maxLen; omega) (Nat.le_refl _))
  have HB := Lib.hid ((Below.refl w.heap.size w).alloc (Nat.le_refl _) (.cells #[.int .u8 ((x : Int) / 256 % 256), .int .u8 ((x : Int) % 256)] 5))
  have hsz : ({ data := #[71, 75, 65, 32, 49, 46, 48, 32] } ++ s : ByteArray).size = 8 + s.size := by rw [ByteArray.size_append]; rfl
  obtain ⟨c1, w1, hc1, hcm1, hrun1, hb1, hs1, hr1⟩ := run_str_bytes (w.alloc (.cells #[.int .u8 ((x : Int) / 256 % 256), .int .u8 ((x : Int) % 256)] 5)) ({ data := #[71, 75, 65, 32, 49, 46, 48, 32] } ++ s) (by rw [hsz]; omega)
  rw [hsz] at hrun1 hc1
  have hza : (w.alloc (.cells #[.int .u8 ((x : Int) / 256 % 256), .int .u8 ((x : Int) % 256)] 5)).heap.size = w.heap.size + 1 := by simp
  have hb1' := hb1
  rw [hza] at hrun1 hr1 hs1
  rw [strL_append, front_str] at hr1
  have HB1 := Lib.hid (HB.out.trans (hb1.mono HB.out.size))
  have HO1 := Lib.hid (own_below HO.out hb1 (Nat.le_refl _))
  have HR1 := Lib.hid (hr1.more (B' := w1.heap.size) (by omega))
  clear hb1 hb1' hza hs1 hr1 hsz HB HO
  obtain ⟨m, hm⟩ : ∃ m, 8 + s.size = m := ⟨_, rfl⟩
  rw [hm] at hrun1 hc1
  have hm48 : m ≤ 48 := by omega
  have HM := Lib.hid (fun _ : Unit => hm); clear hm
  obtain ⟨L, hL⟩ : ∃ L, front ++ strL s = L := ⟨_, rfl⟩
  rw [hL] at HR1
  have HLN : Hid (L.length = m) := Lib.hid (by rw [← hL, List.length_append, strL_len, ← HM.out ()]; rfl)
  have HL := Lib.hid (fun _ : Unit => hL); clear hL
  go_enter Tryd.func37, Tryd.ntmps37
  go_wp2_with fail
  refine (long_any (some ⟨w.heap.size + 1, 0, none⟩) L m c1 w1 HR1.out HLN.out (fun e => by cases e) (by omega)).mono ?_
  rintro e' w2 ⟨h2, c2, rfl, hown2, hb2⟩
  have hc2 := own_cap hown2
  have hlm : lenB m = [m] := by unfold lenB; rw [if_pos (by omega)]
  rw [hlm] at hown2 hc2
  have HO2 := Lib.hid hown2
  have HO12 := Lib.hid (own_below HO1.out hb2 (Nat.le_refl _))
  have HB2 := Lib.hid (HB1.out.trans (hb2.mono HB1.out.size))
  have HL2 := Lib.hid (gt_append_lt (gt_lt_of_mem (a := [m]) (by intro v hv; simp only [List.mem_cons, List.not_mem_nil, or_false] at hv; omega)) HR1.out.1)
  have HRL := Lib.hid (rd_of_own HO2.out HL2.out (Nat.le_refl _))
  rw [hlm]
  obtain ⟨L2, hL2⟩ : ∃ L2, [m] ++ L = L2 := ⟨_, rfl⟩
  rw [hL2] at HRL HL2
  have HLE2 := Lib.hid (fun _ : Unit => hL2); clear hL2
  have HLN2 : Hid (L2.length = 1 + m) := Lib.hid (by rw [← HLE2.out (), List.length_append, HLN.out]; rfl)
  obtain ⟨m2, hm2⟩ : ∃ m2, [m].length + m = m2 := ⟨_, rfl⟩
  have hm2' : m2 = 1 + m := hm2.symm
  rw [hm2] at hc2 ⊢
  clear hm2 hlm hown2 hb2 HO2
  rw [← hm2'] at HLN2
  have h49 : m2 ≤ 49 := by omega
  have HM2 := Lib.hid (fun _ : Unit => hm2'); clear hm2'
  go_wp2_with (at_builtin; refine wpList_append_rd rfl (.tmp 30) (.tmp 34) rfl w.heap.size w.heap.size 2 2 m2 c2 w2.heap.size (two x) L2 (some ⟨h2, 0, none⟩) rfl rfl HO12.out HRL.out HLN2.out (fun e => by cases e) (by omega) HB2.out.size ?_)
  intro g3 cap3 w3 h3 g3w _
  have HO3 := Lib.hid h3; have HB3 := Lib.hid (below_of_only HB2.out g3w (Nat.le_refl _))
  clear h3 g3w
  go_wp2_with fail
  refine (long_any A2 b nb cb w3 ((HR.out.below HB3.out).more HB3.out.size) (HN.out ()) HC.out hb).mono ?_
  rintro e' w4 ⟨h4, c4, rfl, hown4, hb4⟩
  have HO4 := Lib.hid hown4
  have HO34 := Lib.hid (own_below HO3.out hb4 (Nat.le_refl _))
  have HB4 := Lib.hid (HB3.out.trans (hb4.mono HB3.out.size))
  have hl2 := lenB_len nb
  have HL4 := Lib.hid (gt_append_lt (lenB_lt nb) HR.out.1)
  have HRL4 := Lib.hid (rd_of_own HO4.out HL4.out (Nat.le_refl _))
  have HLN4 : Hid ((lenB nb ++ b).length = (lenB nb).length + nb) := Lib.hid (by rw [List.length_append, HN.out ()])
  clear hown4 hb4
  generalize hm4 : (lenB nb).length + nb = m4 at *
  have hm4' : m4 ≤ 16002 := by omega
  have HM4 := Lib.hid (fun _ : Unit => hm4); clear hm4
  obtain ⟨L4, hL4⟩ : ∃ L4, lenB nb ++ b = L4 := ⟨_, rfl⟩
  rw [hL4] at HRL4 HLN4
  have HLE4 := Lib.hid (fun _ : Unit => hL4); clear hL4
  go_wp2_with (at_builtin; refine wpList_append_rd rfl (.tmp 36) (.tmp 38) rfl w.heap.size g3 (2 + m2) cap3 m4 c4 w4.heap.size (two x ++ L2) L4 (some ⟨h4, 0, none⟩) rfl rfl HO34.out HRL4.out HLN4.out (fun e => by cases e) (by omega) HB4.out.size ?_)
  intro g5 cap5 w5 h5 g5w _
  have HO5 := Lib.hid h5; have HB5 := Lib.hid (below_of_only HB4.out g5w (HO34.out.lt _ rfl).1)
  clear h5 g5w
  go_wp2
  go_ret
  have e : two x ++ L2 ++ L4 = infoL (strL s) b x := by
    rw [← HLE4.out (), ← HLE2.out (), ← HL.out ()]
    unfold infoL; rw [strL_len, HM.out (), HN.out ()]; simp [List.append_assoc]
  have el : 2 + m2 + m4 = (infoL (strL s) b x).length := by
    rw [infoL_len, strL_len, HN.out ()]; have := HM2.out (); have := HM4.out (); have := HM.out (); omega
  refine ⟨g5, _, cap5, rfl, el, ?_, HB5.out⟩
  rw [← e]
  have := HO5.out
  simpa [List.append_assoc] using this

end Go.Proofs.YtkplkfokpniflaaDoor.Sha

namespace Go.Proofs.YtkplkfokpniflaaDoor.Sha
set_option linter.all false
open Go.RowKit Iter

theorem foldl_push (ns : List Int) : ∀ r : ByteArray, ns.foldl (fun r n => r.push (UInt8.ofNat n.toNat)) r = ⟨r.data ++ (ns.map fun n => UInt8.ofNat n.toNat).toArray⟩ := by
  induction ns with
  | nil => intro r; simp
  | cons n ns ih => intro r; rw [List.foldl_cons, ih]; simp [ByteArray.push]
/-- a text as a string -/
theorem conv_rd {w : World} {B : Nat} {A : Option Addr} {bs : List Nat} {n c : Nat} (hR : Rd w B A bs) (hn : bs.length = n) :
    (convert 22 9 (.slice A n c)).run Tryd.prog w = .ok (.string (txt bs)) w := by
  rw [run_convert_bytes_string w 22 9 5 A n c Tryd.underlying22 Tryd.underlying5 Tryd.underlying9]
  cases A with
  | none =>
    have h0 : n = 0 := by
      rcases Nat.eq_zero_or_pos n with h | h
      · exact h
      · obtain ⟨ad, e, _⟩ := hR.2 (by omega)
        cases e
    subst h0
    obtain rfl : bs = [] := List.eq_nil_of_length_eq_zero hn
    simp [Conv.bytesToString]
    rfl
  | some ad =>
    have hl : (loadCells ad n).run Tryd.prog w = .ok ((bs.map fun x => ((x : Nat) : Int)).map (Value.int .u8)).toArray w := by
      have := run_loadCells_list (P := Tryd.prog) w ad (bcells bs) (fun j v hv => news_of_rd hR j v hv)
      rw [bcells_len, hn] at this
      rw [this, List.map_map]; rfl
    rw [run_bytesToString w ad n c _ hl, foldl_push]
    simp [txt, strOfNums]
theorem strL_txt {bs : List Nat} (h : ∀ j, gt bs j < 256) : strL (txt bs) = bs := by
  unfold strL txt strOfNums
  dsimp only
  rw [List.map_map, List.map_map]
  conv => rhs; rw [← List.map_id bs]
  apply List.map_congr_left
  intro x hx
  have hx' : x < 256 := by
    obtain ⟨i, hi, e⟩ := List.getElem_of_mem hx
    have := h i
    unfold gt at this
    rw [List.getD_eq_getElem?_getD, List.getElem?_eq_getElem hi] at this
    rw [← e]; exact this
  show (UInt8.ofNat ((x : Nat) : Int).toNat).toNat = x
  rw [Int.toNat_natCast, UInt8.toNat_ofNat']
  omega
theorem txt_inj {a b : List Nat} (ha : ∀ j, gt a j < 256) (hb : ∀ j, gt b j < 256) : txt a = txt b ↔ a = b :=
  ⟨fun h => by rw [← strL_txt ha, ← strL_txt hb, h], fun h => by rw [h]⟩
theorem strL_inj {s t : ByteArray} (h : strL s = strL t) : s = t := by
  cases s with
  | mk s =>
    cases t with
    | mk t =>
      congr 1
      apply Array.toList_inj.1
      exact (List.map_inj_right fun a b e => UInt8.toNat_inj.1 e).1 h

theorem str_ne {a b : ByteArray} (h : ¬ a = b) : (a == b) = false := by
  cases a with
  | mk a =>
    cases b with
    | mk b =>
      show (a == b) = false
      rw [beq_eq_false_iff_ne]
      intro e
      exact h (by rw [e])
theorem loop_eq (s : ByteArray) : ∀ (n i : Nat) (r : List UInt8), s.size - i = n → ByteArray.toList.loop s i r = r.reverse ++ s.data.toList.drop i := by
  intro n
  induction n with
  | zero =>
    intro i r h
    unfold ByteArray.toList.loop
    rw [if_neg (by omega)]
    have : s.data.toList.drop i = [] := List.drop_eq_nil_of_le (by rw [Array.length_toList]; show s.size ≤ i; omega)
    rw [this, List.append_nil]
  | succ n ih =>
    intro i r h
    unfold ByteArray.toList.loop
    have hi : i < s.size := by omega
    rw [if_pos hi, ih (i + 1) _ (by omega)]
    have hi' : i < s.data.toList.length := by rw [Array.length_toList]; exact hi
    rw [List.drop_eq_getElem_cons hi', List.reverse_cons, List.append_assoc]
    congr 2
    simp [ByteArray.get!, hi]
theorem str_tl {a b : ByteArray} (h : ¬ a = b) : ¬ a.toList = b.toList := by
  have e : ∀ s : ByteArray, s.toList = s.data.toList := fun s => by unfold ByteArray.toList; rw [loop_eq s s.size 0 [] rfl]; rfl
  rw [e, e]
  intro h'
  apply h
  cases a with
  | mk a =>
    cases b with
    | mk b => exact congrArg ByteArray.mk (Array.toList_inj.1 h')
theorem lenB_inj {c d : List Nat} (hc : c.length ≤ 16000) (hd : d.length ≤ 16000) (h : lenB c.length ++ c = lenB d.length ++ d) : c = d := by
  unfold lenB at h
  by_cases h1 : c.length < 64 <;> by_cases h2 : d.length < 64
  · rw [if_pos h1, if_pos h2] at h
    exact (List.cons.inj h).2
  · rw [if_pos h1, if_neg h2] at h
    have := (List.cons.inj h).1
    omega
  · rw [if_neg h1, if_pos h2] at h
    have := (List.cons.inj h).1
    omega
  · rw [if_neg h1, if_neg h2] at h
    exact (List.cons.inj (List.cons.inj h).2).2
theorem infoL_inj {a b x y : List Nat} {n m : Nat} (hx : x.length ≤ 16000) (hy : y.length ≤ 16000) (hn : n < 256) (hm : m < 256) : infoL a x n = infoL b y m ↔ (a = b ∧ x = y) ∧ n = m := by
  constructor
  · intro h
    unfold infoL at h
    obtain ⟨h1, h2⟩ := List.append_inj h rfl
    obtain ⟨h3, h4⟩ := List.append_inj h2 rfl
    obtain ⟨_, h5⟩ := List.append_inj h4 rfl
    have hl : a.length = b.length := by have := (List.cons.inj h3).1; omega
    obtain ⟨h6, h7⟩ := List.append_inj h5 hl
    refine ⟨⟨h6, lenB_inj hx hy h7⟩, ?_⟩
    unfold two at h1
    have e1 := (List.cons.inj h1).1
    have e2 := (List.cons.inj (List.cons.inj h1).2).1
    omega
  · rintro ⟨⟨rfl, rfl⟩, rfl⟩; rfl

end Go.Proofs.YtkplkfokpniflaaDoor.Sha
