/- Walks: change, goOn. -/
import Derived.Test.YtdkhiooiakdecaaDoorRKecWalkD
namespace Go.Proofs.YtdkhiooiakdecaaDoorR.Kec
set_option linter.all false
open Go.RowKit

theorem rowIs_words {w : World} {g : Nat} {t : TypeId} {ws : List Nat} (h : w.heap[g]? = some (.cells (words ws) t (0, 0))) (hl : ws.length = 25) : w.rowIs g t 25 (wordRow ws) :=
  ⟨words ws, h, by rw [words_size, hl], fun i hi => numsOf_at .u64 ws i (by omega)⟩
theorem only_of_below {a w : World} (h : Below a.heap.size a w) (row : Option Nat) : a.grownBy w row := ⟨h.os, h.tape, h.output, h.size, fun i hi _ => h.block i hi⟩
theorem only_setRow {a w : World} {g g' : Nat} (h : a.grownBy w (some g)) (hp : a.heap.size ≤ g') (cs : Array Value) : a.grownBy (w.setRow g' cs) (some g) :=
  ⟨h.os, h.tape, h.output, by simpa using h.size, fun i hi hne => (setRow_other w g' i cs (by omega)).trans (h.block i hi hne)⟩
def iota (m : List Nat) (c : Nat) : Nat := gt (join m) 0 ^^^ c
theorem iota_bits {m : List Nat} (h : Ok m) (k : Nat) (hk : k < 24) : bits .xor .u64 ((gt (join m) 0 : Nat) : Int) ((gt roundsT k : Nat) : Int) = ((iota m (gt roundsT k) : Nat) : Int) := by
  rw [u64_xor_nat _ _ ((ok_join h).2 _) (rounds_lt k hk)]; rfl

set_option maxHeartbeats 2000000 in
set_option maxRecDepth 100000 in
theorem change_any (b t n o : Nat) (f : Nat → Value) (ws : List Nat) (w : World) (hS : St w b t n f o ws) (hO : Ok ws) (hT : Tables w) (hb : 3 ≤ b) :
    Calls Tryd.prog 58 #[.pointer (some ⟨b, o, none⟩)] w fun e w' => e = .returned (.tuple #[]) ∧ St w' b t n f o (change ws) ∧ w.grownBy w' (some b) := by
  have hlt := hS.lt
  obtain ⟨tt, fr, hrc⟩ := hT.rounds
  have HS := Lib.hid hS; clear hS
  have HO := Lib.hid hO; clear hO
  have HT := Lib.hid hT; clear hT
  go_enter Tryd.func58, Tryd.ntmps58
  go_wp2_with (refine wpList_load_row rfl 76 _ rfl 0 rfl tt _ fr _ hrc Tryd.underlying76 rfl (by kernel_rfl) ?_)
  go_loopw [6] (fun i W => ∃ k : Nat, k ≤ 24 ∧ i = .int .i64 k ∧ Hid (St W b t n f o (changeTo ws k)) ∧ Hid (w.grownBy W (some b))) (fun i _ => 24 - (intOf i).toNat)
  case atStart => exact ⟨0, by omega, rfl, HS, Lib.hid (World.grownBy.refl _ _)⟩
  case round =>
    obtain ⟨k, hk, rfl, HS1, HG1⟩ := hrel
    by_cases hlt5 : k < 24
    · have hix := run_index_one (P := Tryd.prog) 76 60 24 _ (numsOf .u64 roundsT) .i64 k _ Tryd.underlying76 Tryd.underlying60 rfl (by kernel_rfl) hlt5 (numsOf_at .u64 roundsT k hlt5)
      have HO1 := Lib.hid (ok_changeTo HO.out k (by omega))
      have HT1 := Lib.hid (HT.out.grown HG1.out hb)
      go_wp2_with fail
      refine (spread_any b t n o f (changeTo ws k) _ HS1.out HO1.out).mono ?_
      rintro e w1 ⟨rfl, hS2, hG2⟩
      have HS2 := Lib.hid hS2; have HG2 := Lib.hid hG2; clear hS2 hG2
      have HT2 := Lib.hid (HT1.out.grown HG2.out hb)
      go_wp2_with fail
      refine (turned_any b t n o f (spread (changeTo ws k)) _ HS2.out (ok_spread HO1.out) HT2.out).mono ?_
      rintro e w2 ⟨rfl, hB3⟩
      have HB3 := Lib.hid hB3; clear hB3
      have hlb : b < w2.heap.size := by have := HS2.out.lt; have := HB3.out.size; omega
      have hl : Ok (moved (spread (changeTo ws k))) := ok_movedTo (ok_spread HO1.out) 25 (Nat.le_refl _)
      have hm : changeTo ws (k + 1) = (join (moved (spread (changeTo ws k)))).set 0 (gt (join (moved (spread (changeTo ws k)))) 0 ^^^ gt roundsT k) := rfl
      generalize moved (spread (changeTo ws k)) = m at *
      have hi : (Tryd.prog.info? 62).map (·.size) = some (words m).size := by rw [words_size, hl.1]; kernel_rfl
      have hzm : (words zeros).size = (words m).size := by rw [words_size, words_size, ok_zeros.1, hl.1]
      have HL := Lib.hid hl; have HZM := Lib.hid hzm; have HI := Lib.hid hi; have HM := Lib.hid hm; clear hl hi hzm hm
      go_wp2_with (refine wpList_store_row rfl 62 (.tmp 4) (.tmp 12) rfl w2.heap.size (words m) rfl rfl 62 (words zeros) (heap_alloc_last w2 _) HI.out HZM.out (words_one _) ?_)
      rw [World.setRow_alloc_new]
      have HR4 := Lib.hid (rowIs_words (heap_alloc_last w2 (.cells (words m) 62)) HL.out.1)
      have HS4 := Lib.hid ((HS2.out.of_block (HB3.out.block b HS2.out.lt)).alloc (.cells (words m) 62))
      have HG4 := Lib.hid (only_alloc (only_then (only_then HG1.out HG2.out (.inl rfl)) (only_of_below HB3.out (some b)) (.inl rfl)) (.cells (words m) 62))
      refine (join_any b t n o w2.heap.size f (spread (changeTo ws k)) m _ HS4.out (ok_spread HO1.out) HR4.out HL.out (by omega)).mono ?_
      rintro e w3 ⟨rfl, hS5, hG5⟩
      have HS5 := Lib.hid hS5; have HG5 := Lib.hid (only_then HG4.out hG5 (.inl rfl)); clear hS5 hG5
      have c0 : w3.cell? ⟨b, o, none⟩ = some (.int .u64 (gt (join m) 0 : Nat)) := HS5.out.cell 0 (by omega)
      have f0 := HS5.out.frozen o
      have hio := iota_bits HL.out k hlt5
      go_wp2
      go_region
      go_wp2
      go_roundw
      case rel =>
        have r1 : St (w3.setCell ⟨b, o, none⟩ (.int .u64 (iota m (gt roundsT k) : Nat))) b t n f o (changeTo ws (k + 1)) := by
          rw [HM.out]
          exact HS5.out.set (ok_join HL.out).1 0 _ (by omega)
        exact ⟨k + 1, by omega, by go_num, Lib.hid r1.drew, Lib.hid (only_drew (only_set HG5.out (.inl rfl) _))⟩
      case measure => simp [intOf]; omega
    · obtain rfl : k = 24 := by omega
      go_wp2
      go_end0
      exact ⟨rfl, HS1.out, HG1.out⟩

end Go.Proofs.YtdkhiooiakdecaaDoorR.Kec
