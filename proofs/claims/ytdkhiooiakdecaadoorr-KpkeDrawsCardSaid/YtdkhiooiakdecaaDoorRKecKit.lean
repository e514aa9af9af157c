/- Slices that are held, all answers in one form. -/
import Derived.Test.YtdkhiooiakdecaaDoorRKecMid
import Derived.Test.YtdkhiooiakdecaaDoorRKecRow
import Derived.Deep.RegionHeld3
import Derived.StillTailTactics
namespace Go.Proofs.YtdkhiooiakdecaaDoorR.Kec
set_option linter.all false
open Go.RowKit

theorem own_cap {w : World} {base h n cap : Nat} {xs : List Value} (h1 : w.ownsRow base 5 1 (.slice (some ⟨h, 0, none⟩) n cap) n xs) : n ≤ cap ∧ cap ≤ maxLen := by
  rcases h1.2 with ⟨e, _⟩ | ⟨g, c, cur, e, _, _, h2, h3, _⟩
  · cases e
  · injection e with _ _ e3
    subst e3
    exact ⟨h2, h3⟩
theorem wpAnyH_more {P : Program} {md : Region.Mode} {ops : Array Oper} {Q : Exit → Act → World → Prop} {S S' : World → Prop} (h : ∀ w, S' w → S w) : ∀ (fuel : Nat) (listed : Array Bool) (a : Act) (w : World), wpAnyH P md ops Q S' fuel listed a w → wpAnyH P md ops Q S fuel listed a w
  | 0, _, _, _, h' => h'
  | fuel + 1, _, _, _, h' => ⟨h'.1, fun i hi => wpOp_mono (fun a' w' k => ⟨h _ k.1, wpAnyH_more h fuel _ a' w' k.2⟩) (h'.2 i hi)⟩
theorem own_below {w w' : World} {base B g n cap : Nat} {xs : List Value} (h : w.ownsRow base 5 1 (.slice (some ⟨g, 0, none⟩) n cap) n xs) (hb : Below B w w') (hB : w.heap.size ≤ B) : w'.ownsRow base 5 1 (.slice (some ⟨g, 0, none⟩) n cap) n xs :=
  h.kept ⟨hb.os, hb.tape, hb.output, hb.size, fun i hi _ => hb.block i (by omega)⟩ (.inr (by simp [Value.ownBlock] : Value.ownBlock _ ≠ none))
def Bytes (w : World) (g n : Nat) : Prop := ∃ cur : Array Value, w.heap[g]? = some (.cells cur 5 (0, 0)) ∧ ∀ i, i < n → ∃ z : Int, cur[i]? = some (.int .u8 z)
theorem Bytes.cell {w : World} {g n : Nat} (h : Bytes w g n) (i : Nat) (hi : i < n) : ∃ z : Int, w.cell? ⟨g, i, none⟩ = some (.int .u8 z) := by
  obtain ⟨cur, h1, h2⟩ := h
  obtain ⟨z, hz⟩ := h2 i hi
  exact ⟨z, by rw [cell_of_row w g i cur 5 (0, 0) h1, hz]⟩
theorem Bytes.frozen {w : World} {g n : Nat} (h : Bytes w g n) (i : Nat) : w.frozen? ⟨g, i, none⟩ = false := by
  obtain ⟨cur, h1, _⟩ := h
  simp [World.frozen?, h1]
theorem Bytes.set {w : World} {g n : Nat} (h : Bytes w g n) (i : Nat) (z : Int) : Bytes (w.setCell ⟨g, i, none⟩ (.int .u8 z)) g n := by
  obtain ⟨cur, h1, h2⟩ := h
  refine ⟨cur.setIfInBounds i (.int .u8 z), ?_, fun j hj => ?_⟩
  · rw [setCell_eq_setRow w g i cur 5 (0, 0) (.int .u8 z) h1]
    exact setRow_heap w g _ _ 5 _ h1
  · obtain ⟨y, hy⟩ := h2 j hj
    rw [Array.getElem?_setIfInBounds]
    by_cases e : i = j
    · subst e
      have : i < cur.size := by
        rcases Nat.lt_or_ge i cur.size with h | h
        · exact h
        · rw [Array.getElem?_eq_none h] at hy; cases hy
      exact ⟨z, by simp [this]⟩
    · exact ⟨y, by rw [if_neg e]; exact hy⟩
theorem Bytes.drew {w : World} {g n : Nat} (h : Bytes w g n) : Bytes w.drew g n := h
theorem bytes_of_own {w : World} {base g n cap : Nat} {xs : List Nat} (h : w.ownsRow base 5 1 (.slice (some ⟨g, 0, none⟩) n cap) n (bcells xs)) : Bytes w g n := by
  have hl : xs.length = n := by have := h.1; rw [bcells_len] at this; omega
  rcases h.2 with ⟨e, _⟩ | ⟨g', c, cur, e, _, hc, _, _, hs, ht⟩
  · cases e
  · injection e with e1 _ _
    have e2 : (⟨g, 0, none⟩ : Addr) = ⟨g', 0, none⟩ := Option.some.inj e1
    injection e2 with e3
    subst e3
    refine ⟨cur, hc, fun i hi => ⟨(gt xs i : Nat), ?_⟩⟩
    have h5 := bcells_at xs i (by omega)
    rw [← ht, Nat.mul_one, List.getElem?_take_of_lt hi, Array.getElem?_toList] at h5
    exact h5
theorem own_slice {w : World} {base n : Nat} {v : Value} {xs : List Nat} (h : w.ownsRow base 5 1 v n (bcells xs)) (hx : ∀ j, gt xs j < 256) :
    ∃ (A : Option Addr) (c : Nat), v = .slice A n c ∧ (A = none → c = 0) ∧ n ≤ c ∧ c ≤ 9223372036854775807 ∧ Rd w w.heap.size A xs ∧ xs.length = n ∧ (∀ g, Value.ownBlock v = some g → base ≤ g ∧ g < w.heap.size) := by
  have hl : xs.length = n := by have := h.1; rw [bcells_len] at this; omega
  have h' := h
  rcases h.2 with ⟨e, h0⟩ | ⟨g, c, cur, e, hb, hc, h1, h2, _⟩
  · subst e h0
    have hx0 : xs = [] := List.eq_nil_of_length_eq_zero hl
    subst hx0
    exact ⟨none, 0, rfl, fun _ => rfl, by omega, by omega, Rd.nil _ _ _, rfl, fun g e => by cases e⟩
  · subst e
    refine ⟨some ⟨g, 0, none⟩, c, rfl, fun e => (by cases e), h1, h2, rd_of_own h' hx (Nat.le_refl _), hl, fun g' e => ?_⟩
    have e' : g = g' := Option.some.inj e
    subst e'
    exact h'.lt g rfl
theorem nil_own (w : World) {base : Nat} (h : base ≤ w.heap.size) : (w.alloc (.cells #[] 5)).ownsRow base 5 1 (.slice (some ⟨w.heap.size, 0, none⟩) 0 0) 0 (bcells []) := World.ownsRow_made w #[] 0 h (by unfold maxLen; omega) rfl
theorem foldl_push (ns : List Int) : ∀ r : ByteArray, ns.foldl (fun r n => r.push (UInt8.ofNat n.toNat)) r = ⟨r.data ++ (ns.map fun n => UInt8.ofNat n.toNat).toArray⟩ := by
  induction ns with
  | nil => intro r; simp
  | cons n ns ih => intro r; rw [List.foldl_cons, ih]; simp [ByteArray.push]
theorem conv_rd {w : World} {B : Nat} {A : Option Addr} {bs : List Nat} {n c : Nat} (hR : Rd w B A bs) (hn : bs.length = n) :
    (convert 22 9 (.slice A n c)).run Tryd.prog w = .ok (.string (txt bs)) w := by
  rw [run_convert_bytes_string w 22 9 5 A n c Tryd.underlying22 Tryd.underlying5 Tryd.underlying9]
  cases A with
  | none =>
    have h0 : n = 0 := by
      rcases Nat.eq_zero_or_pos n with h | h
      · exact h
      · obtain ⟨ad, e, _⟩ := hR.2 (by omega)
        cases e
    subst h0
    obtain rfl : bs = [] := List.eq_nil_of_length_eq_zero hn
    simp [Conv.bytesToString]
    rfl
  | some ad =>
    have hl : (loadCells ad n).run Tryd.prog w = .ok ((bs.map fun x => ((x : Nat) : Int)).map (Value.int .u8)).toArray w := by
      have := run_loadCells_list (P := Tryd.prog) w ad (bcells bs) (fun j v hv => news_of_rd hR j v hv)
      rw [bcells_len, hn] at this
      rw [this, List.map_map]; rfl
    rw [run_bytesToString w ad n c _ hl, foldl_push]
    simp [txt, strOfNums]
theorem own_down {w : World} {base base' n : Nat} {v : Value} {xs : List Value} (h : w.ownsRow base 5 1 v n xs) (hb : base' ≤ base) : w.ownsRow base' 5 1 v n xs := by
  refine ⟨h.1, ?_⟩
  rcases h.2 with h2 | ⟨g, c, cur, he, hbase, rest⟩
  · exact .inl h2
  · exact .inr ⟨g, c, cur, he, by omega, rest⟩
def Held (lo : Nat) (v : Value) (bs : List Nat) (w : World) : Prop :=
  ∃ (A : Option Addr) (n c : Nat), v = .slice A n c ∧ Rd w w.heap.size A bs ∧ bs.length = n ∧ ∀ ad, A = some ad → lo ≤ ad.block
theorem Held.none (lo : Nat) (w : World) : Held lo (.slice none 0 0) [] w := ⟨.none, 0, 0, rfl, Rd.nil _ _ _, rfl, fun _ e => by cases e⟩
theorem Held.of_own {lo base n : Nat} {w : World} {v : Value} {bs : List Nat} (h : w.ownsRow base 5 1 v n (bcells bs)) (hx : ∀ j, gt bs j < 256) (hb : lo ≤ base) : Held lo v bs w := by
  obtain ⟨A, c, rfl, -, -, -, hrd, hlen, hblk⟩ := own_slice h hx
  refine ⟨A, n, c, rfl, hrd, hlen, fun ad e => ?_⟩
  subst e
  have := (hblk ad.block rfl).1
  omega
theorem Held.lower {lo lo' : Nat} {v : Value} {bs : List Nat} {w : World} (h : Held lo v bs w) (hl : lo' ≤ lo) : Held lo' v bs w := by
  obtain ⟨A, n, c, e, h1, h2, h3⟩ := h
  exact ⟨A, n, c, e, h1, h2, fun ad e => Nat.le_trans hl (h3 ad e)⟩
theorem Held.below {lo : Nat} {v : Value} {bs : List Nat} {w w' : World} (h : Held lo v bs w) (hb : Below w.heap.size w w') : Held lo v bs w' := by
  obtain ⟨A, n, c, e, h1, h2, h3⟩ := h
  exact ⟨A, n, c, e, (h1.below hb).more hb.size, h2, h3⟩
theorem Held.kept {lo : Nat} {v : Value} {bs : List Nat} {w w' : World} (h : Held lo v bs w) (hs : w.heap.size ≤ w'.heap.size) (hc : ∀ p : Addr, lo ≤ p.block → p.block < w.heap.size → w'.cell? p = w.cell? p) : Held lo v bs w' := by
  obtain ⟨A, n, c, e, h1, h2, h3⟩ := h
  refine ⟨A, n, c, e, ⟨h1.1, fun hn => ?_⟩, h2, h3⟩
  obtain ⟨ad, ha, hlt, hr⟩ := h1.2 hn
  refine ⟨ad, ha, by omega, fun j hj => ?_⟩
  have hbl : (ad.add j).block = ad.block := by unfold Addr.add; split <;> rfl
  rw [hc _ (by rw [hbl]; exact h3 ad ha) (by rw [hbl]; exact hlt)]
  exact hr j hj
theorem Held.conv {lo : Nat} {v : Value} {bs : List Nat} {w : World} (h : Held lo v bs w) : (convert 22 9 v).run Tryd.prog w = .ok (.string (txt bs)) w := by
  obtain ⟨A, n, c, rfl, h1, h2, -⟩ := h
  exact conv_rd h1 h2
def Told (bs : List Nat) (w : World) (e : Ending) (w' : World) : Prop := ∃ v, e = .returned v ∧ Held w.heap.size v bs w' ∧ Below w.heap.size w w'
theorem Bytes.grown {w w' : World} {g g' n : Nat} (h : Bytes w g n) (hg : w.grownBy w' (some g')) (hne : g ≠ g') : Bytes w' g n := by
  obtain ⟨cur, h1, h2⟩ := h
  have hlt : g < w.heap.size := (Array.getElem?_eq_some_iff.1 h1).1
  exact ⟨cur, (hg.block g hlt (by intro e; injection e; omega)).trans h1, h2⟩
theorem Held.grown {lo g : Nat} {v : Value} {bs : List Nat} {w w' : World} (h : Held lo v bs w) (hg : w.grownBy w' (some g)) (hl : g < lo) : Held lo v bs w' :=
  h.kept hg.size fun p h1 h2 => World.cell?_of_block (hg.block p.block h2 (by intro e; injection e; omega))
theorem Held.drew {lo : Nat} {v : Value} {bs : List Nat} {w : World} (h : Held lo v bs w) : Held lo v bs w.drew := h.kept (Nat.le_refl _) fun _ _ _ => rfl
end Go.Proofs.YtdkhiooiakdecaaDoorR.Kec
