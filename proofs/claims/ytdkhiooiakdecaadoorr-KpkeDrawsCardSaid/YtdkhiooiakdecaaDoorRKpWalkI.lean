/- Walks: head, great; what is encoded is decoded as it was, what is decoded is encoded as it stood. -/
import Derived.Test.YtdkhiooiakdecaaDoorRKpWalkH
namespace Go.Proofs.YtdkhiooiakdecaaDoorR.Kp
set_option linter.all false
open Go.RowKit Iter Sm

theorem ext_gt {a b : List Nat} (hl : a.length = b.length) (h : ∀ i, i < a.length → Kec.gt a i = Kec.gt b i) : a = b := by
  apply List.ext_getElem hl
  intro i h1 h2
  have := h i h1
  unfold Kec.gt at this
  rwa [List.getD_eq_getElem?_getD, List.getD_eq_getElem?_getD, List.getElem?_eq_getElem h1, List.getElem?_eq_getElem h2] at this
theorem gt_encB (d : Nat) (p : Nat → Int) (i : Nat) (hi : i < 32 * d) : Kec.gt (encB d p) i = grp 8 (num d (fun i => brv d (p i)) 256) i := by
  unfold Kec.gt encB
  rw [List.getD_eq_getElem?_getD, List.getElem?_map, List.getElem?_range hi]; rfl
theorem num_encB (d : Nat) (p : Nat → Int) : num 8 (Kec.gt (encB d p)) (32 * d) = num d (fun i => brv d (p i)) 256 := by
  have h1 : num 8 (Kec.gt (encB d p)) (32 * d) = num 8 (grp 8 (num d (fun i => brv d (p i)) 256)) (32 * d) := num_congr _ fun i hi => by
    unfold Kec.gt encB
    rw [List.getD_eq_getElem?_getD, List.getElem?_map, List.getElem?_range hi]; rfl
  rw [h1, num_grp, Nat.mod_eq_of_lt]
  have h2 := num_lt (h := d) (f := fun i => brv d (p i)) 256 fun i _ => brv_lt d (p i)
  rwa [show 8 * (32 * d) = d * 256 by omega]
theorem brv_small {d x : Nat} (h : x < 2 ^ d) (h12 : d = 12 → x < 3329) : brv d (x : Int) = x := by
  unfold brv
  split
  · rename_i e
    have := h12 e
    unfold rq; omega
  · rw [rd2_nat, Nat.mod_eq_of_lt h]
theorem brv_brv (d : Nat) (n : Int) : brv d ((brv d n : Nat) : Int) = brv d n := brv_small (brv_lt d n) fun e => by unfold brv; rw [if_pos e]; exact rq_lt n
/-- decoded of encoded -/
theorem dec_enc (d : Nat) (p : Nat → Int) (i : Nat) (hi : i < 256) : brv d (grp d (num 8 (Kec.gt (encB d p)) (32 * d)) i) = brv d (p i) := by
  rw [num_encB, num_dig (fun i => brv_lt d (p i)) 256 i hi, brv_brv]
theorem decE_enc (d : Nat) (p : Nat → Int) (h1 : 1 ≤ d) (h2 : d ≤ 12) : decE (d : Int) (encB d p) = 0 := by
  unfold decE
  rw [if_pos (by omega), encB_len, if_pos (by simp)]
theorem decV_enc (d : Nat) (p : Nat → Int) (h1 : 1 ≤ d) (h2 : d ≤ 12) (i : Nat) (hi : i < 256) : decV (d : Int) (encB d p) i = (brv d (p i) : Int) := by
  unfold decV
  rw [decE_enc d p h1 h2, if_pos rfl, encB_len]
  have := dec_enc d p i hi
  simp only [Int.toNat_natCast]
  rw [this]
/-- encoded of decoded, below twelve bits -/
theorem enc_dec (d : Nat) (bs : List Nat) (hb : ∀ i, Kec.gt bs i < 256) (hl : bs.length = 32 * d) (h1 : 1 ≤ d) (h2 : d < 12) : encB d (decV (d : Int) bs) = bs := by
  have hE : decE (d : Int) bs = 0 := by unfold decE; rw [if_pos (by omega), hl, if_pos (by simp)]
  have hM : num 8 (Kec.gt bs) (32 * d) < 2 ^ (d * 256) := by
    have := num_lt (h := 8) (f := Kec.gt bs) (32 * d) fun i _ => hb i
    rwa [show 8 * (32 * d) = d * 256 by omega] at this
  have hv : num d (fun i => brv d (decV (d : Int) bs i)) 256 = num 8 (Kec.gt bs) (32 * d) := by
    have : num d (fun i => brv d (decV (d : Int) bs i)) 256 = num d (grp d (num 8 (Kec.gt bs) (32 * d))) 256 := num_congr _ fun i hi => by
      unfold decV
      rw [hE, if_pos rfl, hl]
      simp only [Int.toNat_natCast]
      rw [brv_brv, brv_small (grp_lt _ _ _) (fun e => by omega)]
    rw [this, num_grp, Nat.mod_eq_of_lt hM]
  refine ext_gt (by rw [encB_len, hl]) fun i hi => ?_
  rw [encB_len] at hi
  rw [gt_encB d _ i hi, hv, num_dig hb (32 * d) i hi]

def p5 : Nat → Int := fun i => if i = 0 then 5 else 0
theorem p5_fits : Fits p5 := fun i _ => by unfold p5; split <;> omega
theorem p5_first : Kec.gt (encB 4 p5) 0 = 5 := by decide +kernel
theorem sq832 : sqz 1 (rq 832) = 0 := by decide
theorem sq833 : sqz 1 (rq 833) = 1 := by decide
theorem st1 : str 1 (rd2 1 1) = 1665 := by decide
theorem p5_brv (i : Nat) : (brv 4 (p5 i) : Int) = p5 i := by unfold p5; split <;> decide

set_option maxHeartbeats 2000000 in
set_option maxRecDepth 100000 in
theorem head_any (w : World) : Calls Tryd.prog 7 #[] w fun e w' => e = .returned (.bool true) ∧ Below w.heap.size w w' := by
  obtain ⟨Z, hz, hZ⟩ := zero_poly
  have hP : IsP (Z.setIfInBounds 0 (.int .i64 5)) p5 := (isp_set hZ 0 5).congr fun i _ => rfl
  have hg := heap_alloc_last w (.cells Z 26)
  have hc0 : (w.alloc (.cells Z 26)).cell? ⟨w.heap.size, 0, none⟩ = some (.int .i64 0) := by rw [cell_of_row _ _ 0 _ _ (0, 0) hg, hZ.2 0 (by omega)]
  have hf0 : (w.alloc (.cells Z 26)).frozen? ⟨w.heap.size, 0, none⟩ = false := by unfold World.frozen?; rw [hg]; rfl
  obtain ⟨C, hC⟩ : ∃ C, Z.setIfInBounds 0 (.int .i64 5) = C := ⟨_, rfl⟩
  rw [hC] at hP
  have HC := Lib.hid hP; have HZ := Lib.hid hZ
  have HG := Lib.hid (heap_alloc_last w (.cells C 26)); have HI := Lib.hid (poly_sized hP)
  have HB0 := Lib.hid ((Below.refl w.heap.size w).alloc (Nat.le_refl _) (.cells C 26))
  have hs0 : (w.alloc (.cells C 26)).heap.size = w.heap.size + 1 := by simp
  have HS0 := Lib.hid hs0
  clear hP hZ hs0 hg
  go_enter Tryd.func7, Tryd.ntmps7
  go_wp2_with (refine wpList_load_row rfl 26 (.tmp 1) rfl w.heap.size rfl 26 C (0, 0) _ HG.out Tryd.underlying26 rfl HI.out ?_)
  clear hC hc0 hf0
  obtain ⟨W1, hW1⟩ : ∃ W1, w.alloc (.cells C 26) = W1 := ⟨_, rfl⟩
  rw [hW1] at HG HB0 HS0
  rw [hW1]
  clear hW1
  refine (encode_ok 4 C p5 _ HC.out p5_fits (by omega) (by omega)).mono ?_
  rintro e' w2 ⟨g, rfl, ho, hB⟩
  have HO := Lib.hid ho; have HB1 := Lib.hid (HB0.out.trans (hB.mono HB0.out.size))
  have HG2 := Lib.hid ((hB.block w.heap.size (by have := HS0.out; omega)).trans HG.out)
  have hgl := (ho.lt g rfl)
  have HRd := Lib.hid (Kec.rd_of_own ho (encB_lt 4 p5) (Nat.le_refl _))
  clear ho hB
  go_wp2_with fail
  refine (decode_any 4 (some ⟨g, 0, none⟩) (encB 4 p5) 128 128 _ HRd.out (encB_len 4 p5) (by omega)).mono ?_
  have hE := decE_enc 4 p5 (by omega) (by omega)
  have hV : ∀ i, i < 256 → decV 4 (encB 4 p5) i = p5 i := fun i hi => by
    have := decV_enc 4 p5 (by omega) (by omega) i hi
    rw [p5_brv] at this
    exact this
  rintro e' w3 ⟨ds, rfl, hD, hB⟩
  rw [show decE 4 (encB 4 p5) = 0 from hE]
  obtain rfl : ds = C := hD.one HC.out hV
  have HB2 := Lib.hid (HB1.out.trans (hB.mono HB1.out.size))
  have HG3 := Lib.hid ((hB.block w.heap.size (Array.getElem?_eq_some_iff.1 HG2.out).1).trans HG2.out)
  have HR3 := Lib.hid ((HRd.out.below hB).more hB.size)
  clear hD hE hV hB HRd HG2 HG HB0 HB1 HO
  go_wp2_with (refine wpList_store_row rfl 26 (.tmp 3) (.tmp 13) rfl w3.heap.size ds rfl rfl 26 Z (heap_alloc_last w3 _) HI.out (by rw [HZ.out.1, HC.out.1]) HC.out.cells ?_)
  rw [World.setRow_alloc_new]
  have hs3 : (w3.alloc (.cells ds 26)).heap.size = w3.heap.size + 1 := by simp
  have HN3 := Lib.hid (heap_alloc_last w3 (.cells ds 26))
  have hb3 := (Below.refl w3.heap.size w3).alloc (Nat.le_refl _) (.cells ds 26)
  have HG4 := Lib.hid ((hb3.block w.heap.size (Array.getElem?_eq_some_iff.1 HG3.out).1).trans HG3.out)
  have HR4 := Lib.hid ((HR3.out.below hb3).more hb3.size)
  have HB3 := Lib.hid (HB2.out.trans (hb3.mono HB2.out.size))
  obtain ⟨D, hDe⟩ : ∃ D, w3.heap.size = D := ⟨_, rfl⟩
  obtain ⟨w4, hw4⟩ : ∃ w4, w3.alloc (.cells ds 26) = w4 := ⟨_, rfl⟩
  rw [hw4] at HN3 HG4 HR4 HB3
  rw [hw4]
  rw [hDe] at HN3
  rw [hDe]
  clear hs3 hb3 hw4 hDe HG3 HR3 HB2
  go_wp2_with fail
  refine (uniform_no none 0 0 _ (by omega) (by omega)).mono ?_
  rintro e' w5 ⟨zs, rfl, hz0, hB⟩
  have HZ5 := Lib.hid hz0
  have HN5 := Lib.hid ((hB.block D (Array.getElem?_eq_some_iff.1 HN3.out).1).trans HN3.out)
  have HG5 := Lib.hid ((hB.block w.heap.size (Array.getElem?_eq_some_iff.1 HG4.out).1).trans HG4.out)
  have HR5 := Lib.hid ((HR4.out.below hB).more hB.size)
  have HB5 := Lib.hid (HB3.out.trans (hB.mono HB3.out.size))
  clear hz0 hB HN3 HG4 HR4 HB3
  go_wp2_with (refine wpList_store_row rfl 26 (.tmp 5) (.tmp 17) rfl w5.heap.size zs rfl rfl 26 Z (heap_alloc_last w5 _) (poly_sized HZ5.out) (by rw [HZ.out.1, HZ5.out.1]) HZ5.out.cells ?_)
  rw [World.setRow_alloc_new]
  have hb6 := (Below.refl w5.heap.size w5).alloc (Nat.le_refl _) (.cells zs 26)
  have HN6 := Lib.hid ((hb6.block D (Array.getElem?_eq_some_iff.1 HN5.out).1).trans HN5.out)
  have HG6 := Lib.hid ((hb6.block w.heap.size (Array.getElem?_eq_some_iff.1 HG5.out).1).trans HG5.out)
  have hr6 := (HR5.out.below hb6).more hb6.size
  have HB6 := Lib.hid (HB5.out.trans (hb6.mono HB5.out.size))
  obtain ⟨ad, hade, _, hcell⟩ := hr6.2 (by rw [encB_len]; omega)
  injection hade with hade
  subst hade
  have cb := hcell 0 (by rw [encB_len]; omega)
  rw [p5_first] at cb
  have CB := Lib.hid cb
  obtain ⟨w6, hw6⟩ : ∃ w6, w5.alloc (.cells zs 26) = w6 := ⟨_, rfl⟩
  rw [hw6] at HN6 HG6 HB6 CB
  rw [hw6]
  clear hb6 hr6 hcell cb hw6 HN5 HG5 HR5 HB5
  go_wp2_with fail
  refine (squeeze_ok 1 832 _ (by omega) (by omega) (by omega) (by omega)).mono ?_
  rintro e' w7 ⟨rfl, rfl⟩
  rw [sq832]
  go_wp2_with fail
  refine (squeeze_ok 1 833 _ (by omega) (by omega) (by omega) (by omega)).mono ?_
  rintro e' w7 ⟨rfl, rfl⟩
  rw [sq833]
  go_wp2_with fail
  refine (stretch_ok 1 1 _ (by omega) (by omega)).mono ?_
  rintro e' w7 ⟨rfl, k7, rfl⟩
  rw [st1]
  have cb : (w6.drewN k7).cell? ⟨g, 0, none⟩ = some (.int .u8 5) := CB.out
  have hN7 : (w6.drewN k7).heap[D]? = some (.cells ds 26 (0, 0)) := HN6.out
  have hG7 : (w6.drewN k7).heap[w.heap.size]? = some (.cells ds 26 (0, 0)) := HG6.out
  have HN7 := Lib.hid hN7; have HG7 := Lib.hid hG7; have HB7 := Lib.hid (below_drewN HB6.out k7)
  have hre := fun w => run_eq HC.out w
  have hgd := fun x y w => guard_poly .eql x y ds ds w
  clear hN7 hG7
  generalize w6.drewN k7 = w7 at *
  go_wp2_with fail
  refine wp_load_row 26 (.tmp 3) rfl D rfl 26 ds (0, 0) _ HN7.out Tryd.underlying26 rfl HI.out ?_
  rename_i K hK
  refine hK _ _ ?_
  clear hK K
  go_wp2_with fail
  refine wp_load_row 26 (.tmp 1) rfl w.heap.size rfl 26 ds (0, 0) _ HG7.out Tryd.underlying26 rfl HI.out ?_
  rename_i K hK
  refine hK _ _ ?_
  clear hK K
  go_wp2_with fail
  go_ret
  exact ⟨rfl, HB7.out⟩
end Go.Proofs.YtdkhiooiakdecaaDoorR.Kp
