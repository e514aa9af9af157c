/- Walks: KeccakGives. -/
import Derived.Test.YtocjdklieljelaaDoorKecOwn
import Derived.Test.YtocjdklieljelaaDoorKecRow
import Derived.IntWalk
import Derived.Deep.RegionHeld3
namespace Go.Proofs.YtocjdklieljelaaDoor.Kec
open Go.RowKit
attribute [local go_sem ↓] Go.wp_at_zero Go.wp_at_succ

set_option maxHeartbeats 1000000 in
set_option maxRecDepth 100000 in
theorem gives_walk (A A2 : Option Addr) (a b : List Nat) (na nb ca cb k : Nat) (w : World) (hT : Tables w) (hRa : Rd w w.heap.size A a) (hRb : Rd w w.heap.size A2 b) (hna : a.length = na) (hnb : b.length = nb) (hma : na ≤ 5000) (hmb : nb ≤ 5000) (hk : k < 256) :
    Calls Tryd.prog 7 #[.slice A na ca, .slice A2 nb cb, .int .u8 k] w fun e w' => e = .returned (.bool true) ∧ Below w.heap.size w w' := by
  have h3 := hT.lt
  have HT := Lib.hid hT; have HRa := Lib.hid hRa; have HRb := Lib.hid hRb; have HNa := Lib.hid hna; have HNb := Lib.hid hnb; clear hT hRa hRb hna hnb
  go_enter Tryd.func7, Tryd.ntmps7
  go_wp2_with fail
  refine (head_any _ HT.out).mono ?_
  rintro e' w1 ⟨rfl, hB1⟩
  have HB1 := Lib.hid hB1; clear hB1
  go_wp2_with fail
  refine (great_no _ _ _ _ hma).mono ?_
  rintro e' w2 ⟨rfl, rfl⟩
  go_wp2_with fail
  refine (great_no _ _ _ _ hmb).mono ?_
  rintro e' w2 ⟨rfl, rfl⟩
  go_wp2_with fail
  refine (new_any 168 31 _ (by omega) (by omega) (by omega)).mono ?_
  rintro e' w3 ⟨rfl, hS, hB2, hz⟩
  have HS3 := Lib.hid hS; have HB3 := Lib.hid (HB1.out.trans (hB2.mono HB1.out.size)); have hz3 := hB2.size; clear hS hB2 hz
  have hw1 := HB1.out.size
  generalize w1.heap.size = g at *
  have HT3 := Lib.hid (HT.out.below HB3.out h3)
  go_wp2_with fail
  refine (write_any g 168 31 w.heap.size start A a na ca _ HS3.out (good_start (by omega)) (by omega) HT3.out (by omega) (HRa.out.below HB3.out) hw1 HNa.out (by omega)).mono ?_
  rintro e' w4 ⟨rfl, hS4, hG4⟩
  have HS4 := Lib.hid hS4; have HG4 := Lib.hid (below_of_only HB3.out hG4 hw1); clear hS4 hG4
  have HT4 := Lib.hid (HT.out.below HG4.out h3)
  have HD4 := Lib.hid (good_takeAll (r := 168) (by omega) a (good_start (by omega)))
  go_wp2_with fail
  refine (write_any g 168 31 w.heap.size (takeAll 168 start a) none [] 0 0 _ HS4.out HD4.out (by omega) HT4.out (by omega) (Rd.nil _ _ _) hw1 rfl (by omega)).mono ?_
  rintro e' w5 ⟨rfl, hS5, hG5⟩
  have HS5 := Lib.hid hS5; have HG5 := Lib.hid (below_of_only HG4.out hG5 hw1); clear hS5 hG5
  have HT5 := Lib.hid (HT.out.below HG5.out h3)
  go_wp2_with fail
  refine (read_turns g 168 31 (takeAll 168 start a) k _ HS5.out HD4.out (by omega) (by omega) (by omega) HT5.out (by omega) (by omega)).mono ?_
  rintro e' w6 ⟨hx, rfl, hhx, hrowx, hS6, hG6⟩
  have HS6 := Lib.hid hS6; have HG6 := Lib.hid (below_of_only HG5.out hG6 hw1); have HX := Lib.hid hrowx; clear hS6 hG6 hrowx
  have HT6 := Lib.hid (HT.out.below HG6.out h3)
  have HD6 := Lib.hid (good_turned (r := 168) 31 HD4.out (by omega) (by omega))
  go_wp2_with fail
  refine (write_gives g 168 31 _ _ _ HS6.out).mono ?_
  rintro e' w7 ⟨rfl, rfl⟩
  go_wp2_with fail
  refine (read_gives g 168 31 _ 0 _ HS6.out (good_after HD6.out k) (by omega) HT6.out (by omega) (by omega)).mono ?_
  rintro e' w8 ⟨h8, rfl, _, hrow8, hS8, hG8⟩
  have HS8 := Lib.hid hS8; have HG8 := Lib.hid (below_of_only HG6.out hG8 hw1)
  have HX8 := Lib.hid (HX.out.of_block (hG8.block hx HX.out.lt (by intro e; injection e with e; subst e; have := HS5.out.2.lt; omega)))
  clear hS8 hG8 hrow8
  have HT8 := Lib.hid (HT.out.below HG8.out h3)
  go_wp2_with fail
  refine (read_bad g (-1) _ (by omega)).mono ?_
  rintro e' w9 ⟨rfl, rfl⟩
  go_wp2_with fail
  refine (read_gives g 168 31 _ 9 _ HS8.out (good_after (good_after HD6.out k) 0) (by omega) HT8.out (by omega) (by omega)).mono ?_
  rintro e' w9 ⟨hy, rfl, hhy, hrowy, hSy, hG9⟩
  have HG9 := Lib.hid (below_of_only HG8.out hG9 hw1); have HY := Lib.hid hrowy
  have HX9 := Lib.hid (HX8.out.of_block (hG9.block hx HX8.out.lt (by intro e; injection e with e; subst e; have := HS5.out.2.lt; omega)))
  clear hrowy hG9 hSy
  have hxw : w.heap.size ≤ hx := by have := HG5.out.size; omega
  have hT9 : outs 168 (turned 168 31 (takeAll 168 start a)) k ++ outs 168 (after 168 (after 168 (turned 168 31 (takeAll 168 start a)) k) 0) 9 = sponge 168 31 a (k + 9) := by
    show outs 168 _ k ++ outs 168 (after 168 (turned 168 31 (takeAll 168 start a)) k) 9 = _
    rw [outs_add]; rfl
  have HT9 := Lib.hid hT9; clear hT9
  have hlx := outs_len 168 (turned 168 31 (takeAll 168 start a)) k
  have hly := outs_len 168 (after 168 (after 168 (turned 168 31 (takeAll 168 start a)) k) 0) 9
  generalize outs 168 (turned 168 31 (takeAll 168 start a)) k = xs at *
  generalize outs 168 (after 168 (after 168 (turned 168 31 (takeAll 168 start a)) k) 0) 9 = ys at *
  have HLX := Lib.hid hlx; have HLY := Lib.hid hly; clear hlx hly
  have h09 : 0 < 9 := by omega
  have hbd : k + 9 ≤ 1000000 := by omega
  have hbw : w.heap.size ≤ w9.drew.heap.size := HG9.out.size
  go_wp2
  have hsum : IntKind.i64.wrap (IntKind.i64.wrap (k : Int) + 9) = ((k + 9 : Nat) : Int) := by rw [IntWalk.i64_in (k : Int) (by omega), IntWalk.i64_in _ (by omega)]; omega
  have HSUM := Lib.hid hsum; clear hsum
  refine region_calm ?_
  refine wp_region_any (by kernel_rfl) ?_
  change wpAny _ _ _ _ _ _ _ (World.drew _)
  refine wpAny_take (i := 0) (v := ?v0) rfl (by kernel_rfl) (by kernel_rfl) (by kernel_rfl) (fun _ _ _ h => h) (Or.inl ⟨by rfl, ?y0⟩) ?r0
  case y0 => (intro w; go_simp; try with_reducible rfl)
  simp only [List.getElem_toArray, List.getElem_cons_succ, List.getElem_cons_zero, Act.put, List.setIfInBounds_toArray, List.set_cons_zero, List.set_cons_succ]
  refine wpAny_take (i := 1) (v := ?v1) rfl (by kernel_rfl) (by kernel_rfl) (by kernel_rfl) (fun _ _ _ h => h) (Or.inl ⟨by rfl, ?y1⟩) ?r1
  case y1 => (intro w; go_simp; try with_reducible rfl)
  simp only [List.getElem_toArray, List.getElem_cons_succ, List.getElem_cons_zero, Act.put, List.setIfInBounds_toArray, List.set_cons_zero, List.set_cons_succ]
  refine wpAny_take (i := 2) (v := ?v2) rfl (by kernel_rfl) (by kernel_rfl) (by kernel_rfl) (fun _ _ _ h => h) (Or.inl ⟨by rfl, ?y2⟩) ?r2
  case y2 => (intro w; go_simp; try with_reducible rfl)
  simp only [List.getElem_toArray, List.getElem_cons_succ, List.getElem_cons_zero, Act.put, List.setIfInBounds_toArray, List.set_cons_zero, List.set_cons_succ]
  refine wpAny_take (i := 3) (v := ?v3) rfl (by kernel_rfl) (by kernel_rfl) (by kernel_rfl) (fun _ _ _ h => h) (Or.inl ⟨by rfl, ?y3⟩) ?r3
  case y3 => (intro w; go_simp; try with_reducible rfl)
  simp only [List.getElem_toArray, List.getElem_cons_succ, List.getElem_cons_zero, Act.put, List.setIfInBounds_toArray, List.set_cons_zero, List.set_cons_succ]
  refine wpAny_take (i := 6) (v := ?v6) rfl (by kernel_rfl) (by kernel_rfl) (by kernel_rfl) (fun _ _ _ h => h) (Or.inl ⟨by rfl, ?y6⟩) ?r6
  case y6 => (intro w; go_simp; try with_reducible rfl)
  simp only [List.getElem_toArray, List.getElem_cons_succ, List.getElem_cons_zero, Act.put, List.setIfInBounds_toArray, List.set_cons_zero, List.set_cons_succ]
  refine wpAny_take (i := 7) (v := ?v7) rfl (by kernel_rfl) (by kernel_rfl) (by kernel_rfl) (fun _ _ _ h => h) (Or.inl ⟨by rfl, ?y7⟩) ?r7
  case y7 => (intro w; go_simp; try with_reducible rfl)
  simp only [List.getElem_toArray, List.getElem_cons_succ, List.getElem_cons_zero, Act.put, List.setIfInBounds_toArray, List.set_cons_zero, List.set_cons_succ]
  refine wpAny_take (i := 8) (v := ?v8) rfl (by kernel_rfl) (by kernel_rfl) (by kernel_rfl) (fun _ _ _ h => h) (Or.inl ⟨by rfl, ?y8⟩) ?r8
  case y8 => (intro w; go_simp; try with_reducible rfl)
  simp only [List.getElem_toArray, List.getElem_cons_succ, List.getElem_cons_zero, Act.put, List.setIfInBounds_toArray, List.set_cons_zero, List.set_cons_succ]
  refine wpAny_take (i := 9) (v := ?v9) rfl (by kernel_rfl) (by kernel_rfl) (by kernel_rfl) (fun _ _ _ h => h) (Or.inl ⟨by rfl, ?y9⟩) ?r9
  case y9 => (intro w; go_simp; try with_reducible rfl)
  simp only [List.getElem_toArray, List.getElem_cons_succ, List.getElem_cons_zero, Act.put, List.setIfInBounds_toArray, List.set_cons_zero, List.set_cons_succ]
  refine wpAny_ready (rs := [4]) (by kernel_rfl) (by simp) ?_
  refine AllReady.cons rfl (fun K hK => ?_) AllReady.nil
  simp only [List.getElem_toArray, List.getElem_cons_succ, List.getElem_cons_zero]
  refine step_append_bytes ?hw (.tmp 42) (.tmp 43) ?ho w.heap.size hx k hy 9 9 xs ys ?hs ?hx2 HX9.out.drew HLX.out HY.out.drew HLY.out h09 hbd hxw hbw ?hk
  case hw => rfl
  case ho => rfl
  case hs => rfl
  case hx2 => rfl
  intro gq cap wq hown hgrow hat hlt
  rw [HT9.out] at hown
  have hcv := conv_own hown
  have HOWN := Lib.hid hown
  have HBQ := Lib.hid (below_of_only HG9.out (only_then (only_drew (World.grownBy.refl w9 (some hx))) hgrow (.inl rfl)) hxw)
  clear hown hgrow hat
  refine hK _ _ ?_
  clear hK K
  try simp only [List.getElem_toArray, List.getElem_cons_succ, List.getElem_cons_zero, Act.put, List.setIfInBounds_toArray, List.set_cons_zero, List.set_cons_succ]
  refine wpAny_of_held (S := fun w' => (convert 22 9 (.slice (some ⟨gq, 0, none⟩) (k + 9) cap)).run Tryd.prog w' = .ok (.string (txt (sponge 168 31 a (k + 9)))) w') _ _ _ _ ?_
  refine wpAnyH_take (i := 5) (v := ?v5) rfl (by kernel_rfl) (by kernel_rfl) (by kernel_rfl) (fun _ _ _ h => h) (Or.inl ⟨by rfl, ?y5⟩) hcv ?r5
  case y5 => (intro w hSw; (try dsimp only at hSw); go_simp; try with_reducible rfl)
  simp only [List.getElem_toArray, List.getElem_cons_succ, List.getElem_cons_zero, Act.put, List.setIfInBounds_toArray, List.set_cons_zero, List.set_cons_succ]
  refine wpAnyH_ready (rs := [10]) (by kernel_rfl) (by simp) ?_
  refine AllReadyH.cons rfl (fun K hK => ?_) AllReadyH.nil
  simp only [List.getElem_toArray, List.getElem_cons_succ, List.getElem_cons_zero]
  go_simp
  refine (shake128_int A a na ca _ (k + 9) _ (HT.out.below HBQ.out h3) ((HRa.out.below HBQ.out).more HBQ.out.size) HNa.out (by omega) (by omega) HSUM.out).mono ?_
  rintro e' wz ⟨hz, rfl, hhz, hrowz, hBz⟩
  have hcz := conv_all (c := k + 9) hrowz (sponge_len _ _ _ _)
  have hcv2 := conv_own (HOWN.out.kept (only_of_below hBz none) (.inr (by simp [Value.ownBlock])))
  have HOWNZ := Lib.hid (HOWN.out.kept (only_of_below hBz none) (.inr (by simp [Value.ownBlock])))
  have HBZ := Lib.hid (HBQ.out.trans (hBz.mono HBQ.out.size))
  clear hrowz hBz
  refine hK.out _ _ hcv2 (fun _ => ?_)
  clear hK K
  try simp only [List.getElem_toArray, List.getElem_cons_succ, List.getElem_cons_zero, Act.put, List.setIfInBounds_toArray, List.set_cons_zero, List.set_cons_succ]
  refine wpAnyH_ready (rs := [11]) (by kernel_rfl) (by simp) ?_
  refine AllReadyH.cons rfl (fun K hK => ?_) AllReadyH.nil
  simp only [List.getElem_toArray, List.getElem_cons_succ, List.getElem_cons_zero]
  go_simp
  refine hK.out _ _ hcv2 (fun _ => ?_)
  clear hK K
  try simp only [List.getElem_toArray, List.getElem_cons_succ, List.getElem_cons_zero, Act.put, List.setIfInBounds_toArray, List.set_cons_zero, List.set_cons_succ]
  refine wpAnyH_take (i := 12) (v := ?v12) rfl (by kernel_rfl) (by kernel_rfl) (by kernel_rfl) (fun _ _ _ h => h) (Or.inl ⟨by rfl, ?y12⟩) hcv2 ?r12
  case y12 => (intro w hSw; (try dsimp only at hSw); go_simp; try with_reducible rfl)
  simp only [List.getElem_toArray, List.getElem_cons_succ, List.getElem_cons_zero, Act.put, List.setIfInBounds_toArray, List.set_cons_zero, List.set_cons_succ]
  refine wpAnyH_take (i := 13) (v := ?v13) rfl (by kernel_rfl) (by kernel_rfl) (by kernel_rfl) (fun _ _ _ h => h) (Or.inl ⟨by rfl, ?y13⟩) hcv2 ?r13
  case y13 => (intro w hSw; (try dsimp only at hSw); go_simp; try with_reducible rfl)
  simp only [List.getElem_toArray, List.getElem_cons_succ, List.getElem_cons_zero, Act.put, List.setIfInBounds_toArray, List.set_cons_zero, List.set_cons_succ]
  refine wpAnyH_take (i := 14) (v := ?v14) rfl (by kernel_rfl) (by kernel_rfl) (by kernel_rfl) (fun _ _ _ h => h) (Or.inl ⟨by rfl, ?y14⟩) hcv2 ?r14
  case y14 => (intro w hSw; (try dsimp only at hSw); go_simp; try with_reducible rfl)
  simp only [List.getElem_toArray, List.getElem_cons_succ, List.getElem_cons_zero, Act.put, List.setIfInBounds_toArray, List.set_cons_zero, List.set_cons_succ]
  refine wpAnyH_take (i := 15) (v := ?v15) rfl (by kernel_rfl) (by kernel_rfl) (by kernel_rfl) (fun _ _ _ h => h) (Or.inl ⟨by rfl, ?y15⟩) hcv2 ?r15
  case y15 => (intro w hSw; (try dsimp only at hSw); go_simp; try with_reducible rfl)
  simp only [List.getElem_toArray, List.getElem_cons_succ, List.getElem_cons_zero, Act.put, List.setIfInBounds_toArray, List.set_cons_zero, List.set_cons_succ]
  refine wpAnyH_ready (rs := [16]) (by kernel_rfl) (by simp) ?_
  refine AllReadyH.cons rfl (fun K hK => ?_) AllReadyH.nil
  simp only [List.getElem_toArray, List.getElem_cons_succ, List.getElem_cons_zero]
  go_simp
  refine (sum256_len A a na ca _ (HT.out.below HBZ.out h3) ((HRa.out.below HBZ.out).more HBZ.out.size) HNa.out (by omega)).mono ?_
  rintro e' wy ⟨hq, rfl, hhq, hrowq, hBy⟩
  have hcv3 := conv_own (HOWNZ.out.kept (only_of_below hBy none) (.inr (by simp [Value.ownBlock])))
  have HOWNY := Lib.hid (HOWNZ.out.kept (only_of_below hBy none) (.inr (by simp [Value.ownBlock])))
  have HBY := Lib.hid (HBZ.out.trans (hBy.mono HBZ.out.size))
  clear hrowq hBy
  refine hK.out _ _ hcv3 (fun _ => ?_)
  clear hK K
  try simp only [List.getElem_toArray, List.getElem_cons_succ, List.getElem_cons_zero, Act.put, List.setIfInBounds_toArray, List.set_cons_zero, List.set_cons_succ]
  refine wpAnyH_take (i := 17) (v := ?v17) rfl (by kernel_rfl) (by kernel_rfl) (by kernel_rfl) (fun _ _ _ h => h) (Or.inl ⟨by rfl, ?y17⟩) hcv3 ?r17
  case y17 => (intro w hSw; (try dsimp only at hSw); go_simp; try with_reducible rfl)
  simp only [List.getElem_toArray, List.getElem_cons_succ, List.getElem_cons_zero, Act.put, List.setIfInBounds_toArray, List.set_cons_zero, List.set_cons_succ]
  refine wpAnyH_take (i := 18) (v := ?v18) rfl (by kernel_rfl) (by kernel_rfl) (by kernel_rfl) (fun _ _ _ h => h) (Or.inl ⟨by rfl, ?y18⟩) hcv3 ?r18
  case y18 => (intro w hSw; (try dsimp only at hSw); go_simp; try with_reducible rfl)
  simp only [List.getElem_toArray, List.getElem_cons_succ, List.getElem_cons_zero, Act.put, List.setIfInBounds_toArray, List.set_cons_zero, List.set_cons_succ]
  refine wpAnyH_take (i := 19) (v := ?v19) rfl (by kernel_rfl) (by kernel_rfl) (by kernel_rfl) (fun _ _ _ h => h) (Or.inl ⟨by rfl, ?y19⟩) hcv3 ?r19
  case y19 => (intro w hSw; (try dsimp only at hSw); go_simp; try with_reducible rfl)
  simp only [List.getElem_toArray, List.getElem_cons_succ, List.getElem_cons_zero, Act.put, List.setIfInBounds_toArray, List.set_cons_zero, List.set_cons_succ]
  refine wpAnyH_take (i := 20) (v := ?v20) rfl (by kernel_rfl) (by kernel_rfl) (by kernel_rfl) (fun _ _ _ h => h) (Or.inl ⟨by rfl, ?y20⟩) hcv3 ?r20
  case y20 => (intro w hSw; (try dsimp only at hSw); go_simp; try with_reducible rfl)
  simp only [List.getElem_toArray, List.getElem_cons_succ, List.getElem_cons_zero, Act.put, List.setIfInBounds_toArray, List.set_cons_zero, List.set_cons_succ]
  refine wpAnyH_take (i := 21) (v := ?v21) rfl (by kernel_rfl) (by kernel_rfl) (by kernel_rfl) (fun _ _ _ h => h) (Or.inl ⟨by rfl, ?y21⟩) hcv3 ?r21
  case y21 => (intro w hSw; (try dsimp only at hSw); go_simp; try with_reducible rfl)
  simp only [List.getElem_toArray, List.getElem_cons_succ, List.getElem_cons_zero, Act.put, List.setIfInBounds_toArray, List.set_cons_zero, List.set_cons_succ]
  refine wpAnyH_ready (rs := [22]) (by kernel_rfl) (by simp) ?_
  refine AllReadyH.cons rfl (fun K hK => ?_) AllReadyH.nil
  simp only [List.getElem_toArray, List.getElem_cons_succ, List.getElem_cons_zero]
  go_simp
  refine (sum512_len A a na ca _ (HT.out.below HBY.out h3) ((HRa.out.below HBY.out).more HBY.out.size) HNa.out (by omega)).mono ?_
  rintro e' wx ⟨hp, rfl, hhp, hrowp, hBx⟩
  have hcv4 := conv_own (HOWNY.out.kept (only_of_below hBx none) (.inr (by simp [Value.ownBlock])))
  have HBX := Lib.hid (HBY.out.trans (hBx.mono HBY.out.size))
  clear hrowp hBx
  refine hK.out _ _ hcv4 (fun _ => ?_)
  clear hK K
  try simp only [List.getElem_toArray, List.getElem_cons_succ, List.getElem_cons_zero, Act.put, List.setIfInBounds_toArray, List.set_cons_zero, List.set_cons_succ]
  refine wpAnyH_take (i := 23) (v := ?v23) rfl (by kernel_rfl) (by kernel_rfl) (by kernel_rfl) (fun _ _ _ h => h) (Or.inl ⟨by rfl, ?y23⟩) hcv4 ?r23
  case y23 => (intro w hSw; (try dsimp only at hSw); go_simp; try with_reducible rfl)
  simp only [List.getElem_toArray, List.getElem_cons_succ, List.getElem_cons_zero, Act.put, List.setIfInBounds_toArray, List.set_cons_zero, List.set_cons_succ]
  refine wpAnyH_take (i := 24) (v := ?v24) rfl (by kernel_rfl) (by kernel_rfl) (by kernel_rfl) (fun _ _ _ h => h) (Or.inl ⟨by rfl, ?y24⟩) hcv4 ?r24
  case y24 => (intro w hSw; (try dsimp only at hSw); go_simp; try with_reducible rfl)
  simp only [List.getElem_toArray, List.getElem_cons_succ, List.getElem_cons_zero, Act.put, List.setIfInBounds_toArray, List.set_cons_zero, List.set_cons_succ]
  refine wpAnyH_take (i := 25) (v := ?v25) rfl (by kernel_rfl) (by kernel_rfl) (by kernel_rfl) (fun _ _ _ h => h) (Or.inl ⟨by rfl, ?y25⟩) hcv4 ?r25
  case y25 => (intro w hSw; (try dsimp only at hSw); go_simp; try with_reducible rfl)
  simp only [List.getElem_toArray, List.getElem_cons_succ, List.getElem_cons_zero, Act.put, List.setIfInBounds_toArray, List.set_cons_zero, List.set_cons_succ]
  refine wpAnyH_take (i := 26) (v := ?v26) rfl (by kernel_rfl) (by kernel_rfl) (by kernel_rfl) (fun _ _ _ h => h) (Or.inl ⟨by rfl, ?y26⟩) hcv4 ?r26
  case y26 => (intro w hSw; (try dsimp only at hSw); go_simp; try with_reducible rfl)
  simp only [List.getElem_toArray, List.getElem_cons_succ, List.getElem_cons_zero, Act.put, List.setIfInBounds_toArray, List.set_cons_zero, List.set_cons_succ]
  refine wpAnyH_done (by kernel_rfl) ?_ _
  change Exit.then _ _ Exit.normal _ _
  go_wp2
  go_ret
  exact ⟨rfl, HBX.out⟩

set_option maxHeartbeats 1000000 in
theorem gives_great (A A2 : Option Addr) (na nb ca cb k : Nat) (w : World) (hT : Tables w) (h : 5000 < na ∨ 5000 < nb) :
    Calls Tryd.prog 7 #[.slice A na ca, .slice A2 nb cb, .int .u8 k] w fun e w' => e = .returned (.bool true) ∧ Below w.heap.size w w' := by
  have HT := Lib.hid hT; clear hT
  by_cases ha : 5000 < na
  · clear h
    go_enter Tryd.func7, Tryd.ntmps7
    go_wp2_with fail
    refine (head_any _ HT.out).mono ?_
    rintro e' w1 ⟨rfl, hB1⟩
    have HB1 := Lib.hid hB1; clear hB1
    go_wp2_with fail
    refine (great_yes _ _ _ _ ha).mono ?_
    rintro e' w2 ⟨rfl, rfl⟩
    go_wp2
    go_ret
    exact ⟨rfl, HB1.out⟩
  · have hb : 5000 < nb := by omega
    have ha' : na ≤ 5000 := by omega
    clear h ha
    go_enter Tryd.func7, Tryd.ntmps7
    go_wp2_with fail
    refine (head_any _ HT.out).mono ?_
    rintro e' w1 ⟨rfl, hB1⟩
    have HB1 := Lib.hid hB1; clear hB1
    go_wp2_with fail
    refine (great_no _ _ _ _ ha').mono ?_
    rintro e' w2 ⟨rfl, rfl⟩
    go_wp2_with fail
    refine (great_yes _ _ _ _ hb).mono ?_
    rintro e' w2 ⟨rfl, rfl⟩
    go_wp2
    go_ret
    exact ⟨rfl, HB1.out⟩

theorem byte_of_wf {x : Int} (h : (Lit.int .u8 x).wf = true) : ∃ k : Nat, x = k ∧ k < 256 := by
  simp [Lit.wf, IntKind.min, IntKind.max, IntKind.bits, IntKind.signed] at h
  exact ⟨x.toNat, by omega, by omega⟩
theorem keccakGives_walk (a0 : Option Addr) (len0 cap0 : Nat) (z0 : List Int) (a1 : Option Addr) (len1 cap1 : Nat) (z1 : List Int) (a2 : Int) (w : World) (hT : Tables w) (w0 : IsRow .u8 w a0 len0 cap0 z0) (w1 : IsRow .u8 w a1 len1 cap1 z1) (w2 : (Lit.int .u8 a2).wf = true) :
    Calls Tryd.prog 7 #[.slice a0 len0 cap0, .slice a1 len1 cap1, .int .u8 a2] w fun e w' => e = .returned (.bool true) ∧ Below w.heap.size w w' := by
  obtain ⟨k, rfl, hk⟩ := byte_of_wf w2
  obtain ⟨r0, n0, m0⟩ := rd_of_row w0
  obtain ⟨r1, n1, m1⟩ := rd_of_row w1
  by_cases h : 5000 < len0 ∨ 5000 < len1
  · exact gives_great a0 a1 len0 len1 cap0 cap1 k w hT h
  · exact gives_walk a0 a1 _ _ len0 len1 cap0 cap1 k w hT r0 r1 n0 n1 (by omega) (by omega) hk

end Go.Proofs.YtocjdklieljelaaDoor.Kec
