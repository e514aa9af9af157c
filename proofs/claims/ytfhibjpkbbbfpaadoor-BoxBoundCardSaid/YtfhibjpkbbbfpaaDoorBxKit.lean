/- Closed texts: what keccak, hkdf and wire tell, in one form; arrays of thirty-two bytes; texts one behind the other. -/
import Derived.Test.YtfhibjpkbbbfpaaDoorKecM5
import Derived.Test.YtfhibjpkbbbfpaaDoorHkM5
import Derived.Test.YtfhibjpkbbbfpaaDoorWrM2
import Derived.Laws.Cover3
namespace Go.Proofs.YtfhibjpkbbbfpaaDoor.Bx
set_option linter.all false
open Go.RowKit Wr

/-- the tables of all packages, as they lie -/
structure Tabs (w : World) : Prop where
  kec : Kec.Tables w
  sha : Sha.Tables w
  wr : Wr.Tables w
theorem Tabs.lt {w : World} (h : Tabs w) : 6 ≤ w.heap.size := h.kec.big
theorem Tabs.below {w w' : World} {B : Nat} (h : Tabs w) (hg : Below B w w') (hb : 6 ≤ B) : Tabs w' := ⟨h.kec.below hg hb, h.sha.below hg hb, h.wr.below hg (by omega)⟩
theorem Tabs.drew {w : World} (h : Tabs w) : Tabs w.drew := ⟨h.kec.drew, h.sha.drew, h.wr.drew⟩

/-! ### Plain -/
/-- thirty-two bytes of a key, by a name -/
def lb (key : List Nat) (s : ByteArray) : List Nat := Sha.expand key (Sha.infoL (Sha.strL s) [] 32) 32
theorem lb_len (key : List Nat) (s : ByteArray) : (lb key s).length = 32 := Sha.expand_len _ _ _ (by omega)
theorem lb_lt (key : List Nat) (s : ByteArray) : ∀ j, gt (lb key s) j < 256 := Sha.exp_lt _ _ _
def kS (key : List Nat) : List Nat := lb key ⟨#[115, 116, 114, 101, 97, 109]⟩
def kT (key : List Nat) : List Nat := lb key ⟨#[116, 97, 103]⟩
/-- so many bytes of a stream -/
def strm (ks : List Nat) (n : Nat) : List Nat := Kec.sponge 136 31 ks n
theorem strm_len (ks : List Nat) (n : Nat) : (strm ks n).length = n := Kec.sponge_len _ _ _ _
theorem strm_lt (ks : List Nat) (n : Nat) : ∀ j, gt (strm ks n) j < 256 := Kec.sponge_lt _ _ _ _
theorem xor256 {a b : Nat} (ha : a < 256) (hb : b < 256) : a ^^^ b < 256 := Nat.xor_lt_two_pow (n := 8) ha hb
/-- bytes unlike others, up to a place -/
def xrTo (n : Nat) (s b : List Nat) (k : Nat) : List Nat := tab n fun i => if i < k then gt s i ^^^ gt b i else gt s i
def xr (n : Nat) (s b : List Nat) : List Nat := tab n fun i => gt s i ^^^ gt b i
theorem gt_tab0 (n : Nat) (g : Nat → Nat) (i : Nat) (h : ¬ i < n) : gt (tab n g) i = 0 := gt_ge _ _ (by rw [tab_len]; omega)
theorem xrTo_zero {n : Nat} {s : List Nat} (hs : s.length = n) (b : List Nat) : xrTo n s b 0 = s :=
  ext_gt (tab_len _ _) hs fun i hi => by unfold xrTo; rw [gt_tab _ _ _ hi, if_neg (by omega)]
theorem xrTo_all (n : Nat) (s b : List Nat) : xrTo n s b n = xr n s b :=
  ext_gt (tab_len _ _) (tab_len _ _) fun i hi => by unfold xrTo xr; rw [gt_tab _ _ _ hi, gt_tab _ _ _ hi, if_pos hi]
theorem gt_xrTo {n : Nat} {s b : List Nat} {k : Nat} (hk : k < n) : gt (xrTo n s b k) k = gt s k := by
  unfold xrTo; rw [gt_tab _ _ _ hk, if_neg (by omega)]
theorem xrTo_succ {n : Nat} {s b : List Nat} {k : Nat} (hk : k < n) : (xrTo n s b k).set k (gt s k ^^^ gt b k) = xrTo n s b (k + 1) := by
  refine ext_gt (n := n) (by rw [List.length_set]; exact tab_len _ _) (tab_len _ _) fun i hi => ?_
  rw [gt_set _ _ _ _ (by rw [show (xrTo n s b k).length = n from tab_len _ _]; exact hk)]
  unfold xrTo
  rw [gt_tab _ _ _ hi, gt_tab _ _ _ hi]
  by_cases e : i = k
  · subst e; rw [if_pos rfl, if_pos (by omega)]
  · rw [if_neg e]
    by_cases h2 : i < k
    · rw [if_pos h2, if_pos (by omega)]
    · rw [if_neg h2, if_neg (by omega)]
theorem xr_len (n : Nat) (s b : List Nat) : (xr n s b).length = n := tab_len _ _
theorem xr_lt {n : Nat} {s b : List Nat} (hs : ∀ j, gt s j < 256) (hb : ∀ j, gt b j < 256) : ∀ j, gt (xr n s b) j < 256 := fun j => by
  unfold xr
  by_cases h : j < n
  · rw [gt_tab _ _ _ h]; exact xor256 (hs j) (hb j)
  · rw [gt_tab0 _ _ _ h]; omega
theorem xrTo_lt {n : Nat} {s b : List Nat} (hs : ∀ j, gt s j < 256) (hb : ∀ j, gt b j < 256) (k : Nat) : ∀ j, gt (xrTo n s b k) j < 256 := fun j => by
  unfold xrTo
  by_cases h : j < n
  · rw [gt_tab _ _ _ h]; split
    · exact xor256 (hs j) (hb j)
    · exact hs j
  · rw [gt_tab0 _ _ _ h]; omega
theorem xor_cancel (a b : Nat) : a ^^^ (a ^^^ b) = b := by rw [← Nat.xor_assoc, Nat.xor_self, Nat.zero_xor]
theorem xr_back {n : Nat} {s b : List Nat} (hb : b.length = n) : xr n s (xr n s b) = b :=
  ext_gt (tab_len _ _) hb fun i hi => by unfold xr; rw [gt_tab _ _ _ hi, gt_tab _ _ _ hi]; exact xor_cancel _ _
/-- a text unlike its stream -/
def hide (ks b : List Nat) : List Nat := xr b.length (strm ks b.length) b
theorem hide_len (ks b : List Nat) : (hide ks b).length = b.length := xr_len _ _ _
theorem hide_lt (ks : List Nat) {b : List Nat} (hb : ∀ j, gt b j < 256) : ∀ j, gt (hide ks b) j < 256 := xr_lt (strm_lt _ _) hb
theorem hide_back (ks b : List Nat) : hide ks (hide ks b) = b := by
  unfold hide
  rw [xr_len]
  exact xr_back rfl
/-- the tag of what stands ahead, and of bytes -/
def tg (kt ahead b : List Nat) : List Nat := Sha.mac kt (txB ahead ++ b)
theorem tg_len (kt ahead b : List Nat) : (tg kt ahead b).length = 32 := Sha.mac_len _ _
theorem tg_lt (kt ahead b : List Nat) : ∀ j, gt (tg kt ahead b) j < 256 := Sha.mac_lt _ _
/-- what Close tells -/
def closeP (key ahead text : List Nat) : List Nat × Nat :=
  if ¬ key.length = 32 then ([], 1) else if 32768 < ahead.length ∨ 32768 < text.length then ([], 2) else (hide (kS key) text ++ tg (kT key) ahead (hide (kS key) text), 0)

/-! ### What the layers below tell -/
theorem told_of_own {w w' : World} {v : Value} {n : Nat} {bs : List Nat} (h : w'.ownsRow w.heap.size 5 1 v n (bcells bs)) (hx : ∀ j, gt bs j < 256) (hB : Below w.heap.size w w') : Wr.Told bs w (.returned v) w' := by
  obtain ⟨A, c, rfl, hX⟩ := Txt.of_own h hx
  exact ⟨A, n, c, rfl, hX, hB⟩
theorem label_any (s : ByteArray) (hs : s.size ≤ 40) (A : Option Addr) (key : List Nat) (n c : Nat) (w : World) (hT : Tabs w) (hK : Txt Any w A n c key) (hm : n ≤ 32) :
    Calls Tryd.prog 21 #[.slice A n c, .string s, .slice none 0 0, .int .i64 32] w (Wr.Told (lb key s) w) :=
  (Sha.label_any s A none key [] n c 0 0 32 w hT.sha hK.1 hK.2.1 hK.2.2.1 hK.2.2.2.1 (by omega) (Sha.Rd.nil _ _ _) rfl (fun _ => rfl) (by omega) hs (by omega)).mono
    fun e w' ⟨h, he, ho, hb⟩ => by subst he; exact told_of_own ho (lb_lt _ _) hb
theorem shake_any (A : Option Addr) (bs : List Nat) (n c m : Nat) (w : World) (hT : Tabs w) (hX : Txt Any w A n c bs) (hm : m ≤ 65536) :
    Calls Tryd.prog 22 #[.slice A n c, .int .i64 m] w (Kec.Out w (strm bs m)) :=
  Kec.shake256_any A bs n c m w hT.kec hX.1 hX.2.1 (by have := hX.2.2.1; have := hX.2.2.2.1; omega) hm
theorem hmac_any (A A2 : Option Addr) (key t : List Nat) (n c n2 c2 : Nat) (w : World) (hT : Tabs w) (hK : Txt Any w A n c key) (hm : n ≤ 100000) (hX : Txt Any w A2 n2 c2 t) (hm2 : n2 ≤ 100000) :
    Calls Tryd.prog 35 #[.slice A n c, .slice A2 n2 c2] w (Sha.Summed w (Sha.mac key t)) :=
  Sha.mac_any A A2 key t n c n2 c2 w hT.sha hK.1 hK.2.1 hK.2.2.1 hK.2.2.2.1 hm hX.1 hX.2.1 hX.2.2.1 hX.2.2.2.1 hm2

/-! ### Arrays of thirty-two bytes -/
theorem tag_size : (Tryd.prog.info? 37).map (·.size) = some 32 := by kernel_rfl
theorem tag_sized {t : List Nat} (h : t.length = 32) : (Tryd.prog.info? 37).map (·.size) = some (bcells t).toArray.size := by
  rw [List.size_toArray, bcells_len, h]; exact tag_size
theorem zero_tag : ∃ Z : Array Value, (∀ w, (zeroValue 37).run Tryd.prog w = .ok (.agg Z) w) ∧ Z.size = 32 := by
  have h : (Tryd.prog.info? 37).map (fun i => i.zero) = some (some (.agg (Array.replicate 32 (.int .u8 0)))) := by kernel_rfl
  obtain ⟨i, hi, e⟩ := Option.map_eq_some_iff.1 h
  refine ⟨Array.replicate 32 (.int .u8 0), fun w => ?_, by simp⟩
  simp [zeroValue, typeInfo, hi, e]
theorem bcells_all (t : List Nat) : (bcells t).toArray.all (·.oneCell') = true := by simp [bcells, Value.oneCell']
/-- thirty-two bytes out of a row -/
theorem load_tag {w : World} {A : Option Addr} {ad : Addr} {n c : Nat} {S : Nat → Prop} {t : List Nat} (h : Txt S w A n c t) (hA : A = some ad) (hn : t.length = 32) : (loadVar 37 ad).run Tryd.prog w = .ok (.agg (bcells t).toArray) w := by
  subst hA
  have hl : (loadCells ad (bcells t).length).run Tryd.prog w = .ok (bcells t).toArray w :=
    run_loadCells_list (P := Tryd.prog) w ad (bcells t) (fun j v hv => by
      have hj : j < t.length := by
        rcases Nat.lt_or_ge j t.length with h | h
        · exact h
        · rw [List.getElem?_eq_none (by rw [bcells_len]; exact h)] at hv; cases hv
      rw [bcells_at t j hj] at hv
      rw [h.cell j (by rw [← h.2.1]; exact hj), ← Option.some.inj hv])
  rw [bcells_len, hn] at hl
  cases hq : Tryd.prog.info? 37 with
  | none => have := tag_size; simp [hq] at this
  | some i =>
    have hs : i.size = 32 := by have := tag_size; simpa [hq] using this
    have hagg : (isAgg 37).run Tryd.prog w = .ok true w := by
      unfold isAgg
      rw [Sem.run_bind, run_underlying Tryd.underlying37 w]
      rfl
    simp [loadVar, Sem.run_bind, hagg, sizeOf, typeInfo, hq, hs, hl]

/-! ### Lists of texts -/
theorem two_parts {w : World} {A B : Option Addr} {a b : List Nat} {na ca nb cb : Nat} (hA : Txt Any w A na ca a) (hB : Txt Any w B nb cb b) (t : TypeId) :
    TxtL Any (w.alloc (.cells #[.slice A na ca, .slice B nb cb] t)) (some ⟨w.heap.size, 0, none⟩) 2 2 [a, b] := by
  have hb := (Below.refl w.heap.size w).alloc (Nat.le_refl _) (.cells #[.slice A na ca, .slice B nb cb] t)
  refine ⟨rfl, by omega, by omega, fun e => (by cases e), fun ad e => ?_, fun ad e j hj => ?_⟩
  · injection e with e; subst e; exact ⟨True.intro, fun _ => by simp⟩
  · injection e with e; subst e
    have hd : (⟨w.heap.size, 0, none⟩ : Addr).add j = ⟨w.heap.size, j, none⟩ := by unfold Addr.add; split <;> simp_all
    rw [hd, cell_of_row _ _ j _ t (0, 0) (heap_alloc_last w _)]
    match j, hj with
    | 0, _ => exact ⟨A, na, ca, rfl, hA.below hb⟩
    | 1, _ => exact ⟨B, nb, cb, rfl, hB.below hb⟩
theorem one_part {w : World} {A : Option Addr} {a : List Nat} {na ca : Nat} (hA : Txt Any w A na ca a) (t : TypeId) :
    TxtL Any (w.alloc (.cells #[.slice A na ca] t)) (some ⟨w.heap.size, 0, none⟩) 1 1 [a] := by
  have hb := (Below.refl w.heap.size w).alloc (Nat.le_refl _) (.cells #[.slice A na ca] t)
  refine ⟨rfl, by omega, by omega, fun e => (by cases e), fun ad e => ?_, fun ad e j hj => ?_⟩
  · injection e with e; subst e; exact ⟨True.intro, fun _ => by simp⟩
  · injection e with e; subst e
    have hd : (⟨w.heap.size, 0, none⟩ : Addr).add j = ⟨w.heap.size, j, none⟩ := by unfold Addr.add; split <;> simp_all
    rw [hd, cell_of_row _ _ j _ t (0, 0) (heap_alloc_last w _)]
    match j, hj with
    | 0, _ => exact ⟨A, na, ca, rfl, hA.below hb⟩
theorem flat_take {ls : List (List Nat)} {k : Nat} (h : k < ls.length) : (ls.take (k + 1)).flatten = (ls.take k).flatten ++ ls.getD k [] := by
  rw [List.take_succ, List.flatten_append, List.getElem?_eq_getElem h, List.getD_eq_getElem?_getD, List.getElem?_eq_getElem h]; simp
theorem flat_le {ls : List (List Nat)} (k : Nat) : (ls.take k).flatten.length ≤ ls.flatten.length := by
  have h := congrArg (fun l => (List.flatten l).length) (List.take_append_drop k ls)
  simp only [List.flatten_append, List.length_append] at h
  omega
theorem flat_lt {ls : List (List Nat)} (h : ∀ s ∈ ls, ∀ j, gt s j < 256) : ∀ j, gt ls.flatten j < 256 := by
  induction ls with
  | nil => intro j; simp [gt]
  | cons a l ih =>
    rw [List.flatten_cons]
    exact gt_append_lt (h a (List.mem_cons_self ..)) (ih fun s hs => h s (List.mem_cons_of_mem _ hs))
end Go.Proofs.YtfhibjpkbbbfpaaDoor.Bx
