/- Walks: Encode and Decode of any number of bits, Centred; Uniform of what has another length. -/
import Derived.Test.YtdkhiooiakdecaaDoorRKpWalkG
import Derived.Laws.ResultCell
namespace Go.Proofs.YtdkhiooiakdecaaDoorR.Kp
set_option linter.all false
open Go.RowKit Iter Sm

theorem results_row_tmp {P : Program} {fn : Func} {p u : Tmp} {ty : TypeId} (h : fn.results = #[.cell p ty, .tmp u]) (tmps : Array Value) (w : World) (g : Nat) (t : TypeId) (cs : Array Value) (fr : Nat × Nat) (d : TypeDesc)
    (hp : tmps.getD p undef = .pointer (some ⟨g, 0, none⟩)) (hg : w.heap[g]? = some (.cells cs t fr))
    (hu : P.underlying ty = some d) (hd : (match d with | .struct _ | .array _ _ => true | _ => false) = true) (hi : (P.info? ty).map (·.size) = some cs.size) :
    (results fn tmps).run P w = .ok (.tuple #[.agg cs, tmps.getD u undef]) w := by
  have hp' : tmps[p]?.getD undef = .pointer (some ⟨g, 0, none⟩) := by simpa using hp
  rw [results_cell_tmp h]
  simp [hp', asAddr, run_loadVar_row w g t ty cs fr d hg hu hd hi]
theorem okEnc_false {d : Int} (h : ¬ (1 ≤ d ∧ d ≤ 12)) : okEnc d = false := by
  unfold okEnc
  by_cases h1 : 1 ≤ d
  · rw [decide_eq_false (p := d ≤ 12) (by omega)]; simp
  · rw [decide_eq_false h1]; rfl
theorem okEnc_true {d : Int} (h : 1 ≤ d ∧ d ≤ 12) : okEnc d = true := by unfold okEnc; rw [decide_eq_true h.1, decide_eq_true h.2]; rfl
/-- the bytes that Encode tells -/
def encD (d : Int) (p : Nat → Int) : List Nat := if 1 ≤ d ∧ d ≤ 12 then encB d.toNat p else []
set_option maxHeartbeats 1000000 in
set_option maxRecDepth 100000 in
theorem encode_no (d : Int) (cs : Array Value) (w : World) (h : ¬ (1 ≤ d ∧ d ≤ 12)) :
    Calls Tryd.prog 19 #[.int .i64 d, .agg cs] w fun e w' => e = .returned (.slice none 0 0) ∧ Below w.heap.size w w' := by
  have hok := okEnc_false h
  have HB0 := Lib.hid ((Below.refl w.heap.size w).alloc (Nat.le_refl _) (.cells cs 26))
  clear h
  go_enter Tryd.func19, Tryd.ntmps19
  go_wp2_with fail
  refine (mayBeEncoded_any _ _).mono ?_
  rintro e' w1 ⟨rfl, rfl⟩
  rw [hok]
  go_wp2
  go_ret
  exact ⟨rfl, HB0.out⟩
theorem encode_told (d : Int) (cs : Array Value) (p : Nat → Int) (w : World) (hP : IsP cs p) (hF : Fits p) :
    Calls Tryd.prog 19 #[.int .i64 d, .agg cs] w (Kec.Told (encD d p) w) := by
  unfold encD
  by_cases h : 1 ≤ d ∧ d ≤ 12
  · rw [if_pos h]
    obtain ⟨k, rfl⟩ : ∃ k : Nat, d = k := ⟨d.toNat, by omega⟩
    refine (encode_ok k cs p w hP hF (by omega) (by omega)).mono ?_
    rintro e w' ⟨g, rfl, ho, hB⟩
    exact ⟨_, rfl, Kec.Held.of_own ho (encB_lt k p) (Nat.le_refl _), hB⟩
  · rw [if_neg h]
    refine (encode_no d cs w h).mono ?_
    rintro e w' ⟨rfl, hB⟩
    exact ⟨_, rfl, Kec.Held.none _ _, hB⟩

/-- what Decode tells: the numbers, and the error -/
def decE (d : Int) (bs : List Nat) : Int := if 1 ≤ d ∧ d ≤ 12 then (if bs.length = 32 * d.toNat then 0 else 52) else 1
def decV (d : Int) (bs : List Nat) : Nat → Int := fun i => if decE d bs = 0 then ((brv d.toNat (grp d.toNat (num 8 (Kec.gt bs) bs.length) i) : Nat) : Int) else 0
def PolyErr (v : Nat → Int) (x : Int) (w : World) (e : Ending) (w' : World) : Prop := ∃ ds, e = .returned (.tuple #[.agg ds, .int .i64 x]) ∧ IsP ds v ∧ Below w.heap.size w w'
theorem poly_ret {fn : Func} {a : Act} {w w' W : World} {Z ds : Array Value} {b : Nat} {v : Nat → Int} (h : W.heap[b]? = some (.cells Z 26 (0, 0))) (hB : Below w.heap.size w W) (hb : w.heap.size ≤ b) :
    (W.setRow b ds).heap[b]? = some (.cells ds 26 (0, 0)) ∧ Below w.heap.size w (W.setRow b ds) := ⟨setRow_heap _ _ _ _ _ _ h, below_setRow hB hb _⟩
set_option maxHeartbeats 2000000 in
set_option maxRecDepth 100000 in
theorem decode_any (d : Int) (A : Option Addr) (bs : List Nat) (n c : Nat) (w : World) (hR : Kec.Rd w w.heap.size A bs) (hn : bs.length = n) (hm : n ≤ 9223372036854775807) :
    Calls Tryd.prog 13 #[.int .i64 d, .slice A n c] w (PolyErr (decV d bs) (decE d bs) w) := by
  obtain ⟨Z, hz, hZ⟩ := zero_poly
  have HZ := Lib.hid hZ; have HR := Lib.hid hR; have HN := Lib.hid (fun _ : Unit => hn)
  have hg := heap_alloc_last w (.cells Z 26)
  have HG := Lib.hid hg
  have HB0 := Lib.hid ((Below.refl w.heap.size w).alloc (Nat.le_refl _) (.cells Z 26))
  have HIB := Lib.hid (poly_sized hZ)
  clear hZ hR hn hg
  by_cases h : 1 ≤ d ∧ d ≤ 12
  · obtain ⟨k, rfl⟩ : ∃ k : Nat, d = k := ⟨d.toNat, by omega⟩
    have hok := okEnc_true h
    have hk12 : k ≤ 12 := by omega
    have hk1 : 1 ≤ k := by omega
    by_cases hl : n = 32 * k
    · have HV : Hid (decE (k : Int) bs = 0 ∧ decV (k : Int) bs = fun i => ((brv k (grp k (num 8 (Kec.gt bs) n) i) : Nat) : Int)) := Lib.hid (by
        have h1 : decE (k : Int) bs = 0 := by unfold decE; rw [if_pos h, HN.out (), if_pos (by simpa using hl)]
        refine ⟨h1, ?_⟩
        unfold decV
        rw [h1, HN.out ()]
        funext i
        rw [if_pos rfl]; rfl)
      have HL := Lib.hid (fun _ : Unit => hl)
      have hne : ((n : Int) != ((32 * k : Nat) : Int)) = false := by rw [bne_eq_false_iff_eq]; omega
      have HNE := Lib.hid (fun _ : Unit => hne)
      clear h hl hne
      go_enter Tryd.func13, Tryd.ntmps13
      go_wp2_with fail
      refine (mayBeEncoded_any _ _).mono ?_
      rintro e' w1 ⟨rfl, rfl⟩
      rw [hok]
      go_wp2_with fail
      refine (encodedBytes_any k _ hk12).mono ?_
      rintro e' w1 ⟨rfl, rfl⟩
      have hne := HNE.out ()
      generalize 32 * k = m at hne ⊢
      go_wp2_with fail
      refine (decoded_any A bs n c k _ hk1 hk12 ((HR.out.below HB0.out).more HB0.out.size) (HN.out ()) (HL.out ())).mono ?_
      rintro e' w1 ⟨ds, rfl, hD, hB1⟩
      have hq := (hB1.block w.heap.size (by simp)).trans HG.out
      have HD := Lib.hid hD; have HQ := Lib.hid hq; have HB1 := Lib.hid (HB0.out.trans (hB1.mono HB0.out.size))
      have HI := Lib.hid (poly_sized hD); have HM := Lib.hid (show Z.size = ds.size by rw [HZ.out.1, hD.1])
      clear hD hq hB1
      go_wp2_with (refine wpList_store_row rfl 26 (.tmp 4) (.tmp 18) rfl w.heap.size ds rfl rfl 26 Z HQ.out HI.out HM.out HD.out.cells ?_)
      refine bodyPost_ret (v := .tuple #[.agg ds, .int .i64 0]) (results_row_tmp (p := 4) (u := 5) (ty := 26) (by kernel_rfl) _ _ w.heap.size 26 ds (0, 0) _ rfl (setRow_heap _ _ _ _ _ _ HQ.out) Tryd.underlying26 rfl HI.out) rfl ⟨ds, by rw [HV.out.1], by rw [HV.out.2]; exact HD.out, below_setRow HB1.out (Nat.le_refl _) _⟩
    · have HV : Hid (decE (k : Int) bs = 52 ∧ decV (k : Int) bs = fun _ => 0) := Lib.hid (by
        have h1 : decE (k : Int) bs = 52 := by unfold decE; rw [if_pos h, HN.out (), if_neg (by simpa using hl)]
        refine ⟨h1, ?_⟩
        unfold decV
        rw [h1]
        rfl)
      have hne : ((n : Int) != ((32 * k : Nat) : Int)) = true := by rw [bne_iff_ne]; omega
      have HNE := Lib.hid (fun _ : Unit => hne)
      clear h hl hne
      go_enter Tryd.func13, Tryd.ntmps13
      go_wp2_with fail
      refine (mayBeEncoded_any _ _).mono ?_
      rintro e' w1 ⟨rfl, rfl⟩
      rw [hok]
      go_wp2_with fail
      refine (encodedBytes_any k _ hk12).mono ?_
      rintro e' w1 ⟨rfl, rfl⟩
      have hne := HNE.out ()
      generalize 32 * k = m at hne ⊢
      go_wp2_with (refine wpList_store_row rfl 26 (.tmp 4) (.tmp 15) rfl w.heap.size Z rfl rfl 26 Z HG.out HIB.out rfl HZ.out.cells ?_)
      refine bodyPost_ret (v := .tuple #[.agg Z, .int .i64 52]) (results_row_tmp (p := 4) (u := 5) (ty := 26) (by kernel_rfl) _ _ w.heap.size 26 Z (0, 0) _ rfl (setRow_heap _ _ _ _ _ _ HG.out) Tryd.underlying26 rfl HIB.out) rfl ⟨Z, by rw [HV.out.1], by rw [HV.out.2]; exact HZ.out, below_setRow HB0.out (Nat.le_refl _) _⟩
  · have HV : Hid (decE d bs = 1 ∧ decV d bs = fun _ => 0) := Lib.hid (by
      have h1 : decE d bs = 1 := by unfold decE; rw [if_neg h]
      refine ⟨h1, ?_⟩
      unfold decV
      rw [h1]
      rfl)
    have hok := okEnc_false h
    clear h
    go_enter Tryd.func13, Tryd.ntmps13
    go_wp2_with fail
    refine (mayBeEncoded_any _ _).mono ?_
    rintro e' w1 ⟨rfl, rfl⟩
    rw [hok]
    go_wp2_with (refine wpList_store_row rfl 26 (.tmp 4) (.tmp 9) rfl w.heap.size Z rfl rfl 26 Z HG.out HIB.out rfl HZ.out.cells ?_)
    refine bodyPost_ret (v := .tuple #[.agg Z, .int .i64 1]) (results_row_tmp (p := 4) (u := 5) (ty := 26) (by kernel_rfl) _ _ w.heap.size 26 Z (0, 0) _ rfl (setRow_heap _ _ _ _ _ _ HG.out) Tryd.underlying26 rfl HIB.out) rfl ⟨Z, by rw [HV.out.1], by rw [HV.out.2]; exact HZ.out, below_setRow HB0.out (Nat.le_refl _) _⟩

/-! ### Centred, and Uniform of another length -/
def cenE (bs : List Nat) : Int := if bs.length = 128 then 0 else 1
def cenW (bs : List Nat) : Nat → Int := if bs.length = 128 then up (cenF bs) else fun _ => 0
set_option maxHeartbeats 2000000 in
set_option maxRecDepth 100000 in
theorem centred_all (A : Option Addr) (bs : List Nat) (n c : Nat) (w : World) (hR : Kec.Rd w w.heap.size A bs) (hn : bs.length = n) (hm : n ≤ 9223372036854775807) :
    Calls Tryd.prog 10 #[.slice A n c] w (PolyErr (cenW bs) (cenE bs) w) := by
  obtain ⟨Z, hz, hZ⟩ := zero_poly
  have HZ := Lib.hid hZ; have HR := Lib.hid hR; have HN := Lib.hid (fun _ : Unit => hn)
  have hg := heap_alloc_last w (.cells Z 26)
  have HG := Lib.hid hg
  have HB0 := Lib.hid ((Below.refl w.heap.size w).alloc (Nat.le_refl _) (.cells Z 26))
  have HIB := Lib.hid (poly_sized hZ)
  clear hZ hR hn hg
  by_cases hl : n = 128
  · have HV : Hid (cenE bs = 0 ∧ cenW bs = up (cenF bs)) := Lib.hid (by unfold cenE cenW; rw [HN.out (), if_pos hl, if_pos hl]; exact ⟨rfl, rfl⟩)
    subst hl
    go_enter Tryd.func10, Tryd.ntmps10
    go_wp2_with fail
    refine (centred_any A bs 128 c _ ((HR.out.below HB0.out).more HB0.out.size) (HN.out ()) rfl).mono ?_
    rintro e' w1 ⟨ds, rfl, hD, hB1⟩
    have hq := (hB1.block w.heap.size (by simp)).trans HG.out
    have HD := Lib.hid hD; have HQ := Lib.hid hq; have HB1 := Lib.hid (HB0.out.trans (hB1.mono HB0.out.size))
    have HI := Lib.hid (poly_sized hD); have HM := Lib.hid (show Z.size = ds.size by rw [HZ.out.1, hD.1])
    clear hD hq hB1
    go_wp2_with (refine wpList_store_row rfl 26 (.tmp 2) (.tmp 9) rfl w.heap.size ds rfl rfl 26 Z HQ.out HI.out HM.out HD.out.cells ?_)
    refine bodyPost_ret (v := .tuple #[.agg ds, .int .i64 0]) (results_row_tmp (p := 2) (u := 3) (ty := 26) (by kernel_rfl) _ _ w.heap.size 26 ds (0, 0) _ rfl (setRow_heap _ _ _ _ _ _ HQ.out) Tryd.underlying26 rfl HI.out) rfl ⟨ds, by rw [HV.out.1], by rw [HV.out.2]; exact HD.out, below_setRow HB1.out (Nat.le_refl _) _⟩
  · have HV : Hid (cenE bs = 1 ∧ cenW bs = fun _ => 0) := Lib.hid (by unfold cenE cenW; rw [HN.out (), if_neg hl, if_neg hl]; exact ⟨rfl, rfl⟩)
    have hne : ((n : Int) != 128) = true := by rw [bne_iff_ne]; omega
    clear hl
    go_enter Tryd.func10, Tryd.ntmps10
    go_wp2_with (refine wpList_store_row rfl 26 (.tmp 2) (.tmp 7) rfl w.heap.size Z rfl rfl 26 Z HG.out HIB.out rfl HZ.out.cells ?_)
    refine bodyPost_ret (v := .tuple #[.agg Z, .int .i64 1]) (results_row_tmp (p := 2) (u := 3) (ty := 26) (by kernel_rfl) _ _ w.heap.size 26 Z (0, 0) _ rfl (setRow_heap _ _ _ _ _ _ HG.out) Tryd.underlying26 rfl HIB.out) rfl ⟨Z, by rw [HV.out.1], by rw [HV.out.2]; exact HZ.out, below_setRow HB0.out (Nat.le_refl _) _⟩
set_option maxHeartbeats 2000000 in
set_option maxRecDepth 100000 in
theorem uniform_no (A : Option Addr) (n c : Nat) (w : World) (hl : n ≠ 34) (hm : n ≤ 9223372036854775807) :
    Calls Tryd.prog 9 #[.slice A n c] w (PolyErr (fun _ => 0) 1 w) := by
  obtain ⟨Z, hz, hZ⟩ := zero_poly
  have HZ := Lib.hid hZ
  have hg := heap_alloc_last w (.cells Z 26)
  have HG := Lib.hid hg
  have HB0 := Lib.hid ((Below.refl w.heap.size w).alloc (Nat.le_refl _) (.cells Z 26))
  have HIB := Lib.hid (poly_sized hZ)
  have hne : ((n : Int) != 34) = true := by rw [bne_iff_ne]; omega
  clear hZ hg hl
  go_enter Tryd.func9, Tryd.ntmps9
  go_wp2_with (refine wpList_store_row rfl 26 (.tmp 2) (.tmp 7) rfl w.heap.size Z rfl rfl 26 Z HG.out HIB.out rfl HZ.out.cells ?_)
  refine bodyPost_ret (v := .tuple #[.agg Z, .int .i64 1]) (results_row_tmp (p := 2) (u := 3) (ty := 26) (by kernel_rfl) _ _ w.heap.size 26 Z (0, 0) _ rfl (setRow_heap _ _ _ _ _ _ HG.out) Tryd.underlying26 rfl HIB.out) rfl ⟨Z, rfl, HZ.out, below_setRow HB0.out (Nat.le_refl _) _⟩
end Go.Proofs.YtdkhiooiakdecaaDoorR.Kp
