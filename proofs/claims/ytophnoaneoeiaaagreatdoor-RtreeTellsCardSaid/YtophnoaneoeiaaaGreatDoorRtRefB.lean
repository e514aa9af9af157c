/- Walks: the document's Number as a row of one's own, text, NodeBytes. Written by tools/mk_rtrefb.py. -/
import Derived.Test.YtophnoaneoeiaaaGreatDoorRtWalkL
import Derived.Test.YtophnoaneoeiaaaGreatDoorWrM3
namespace Go.Proofs.YtophnoaneoeiaaaGreatDoor.Rt
set_option linter.all false
open Go.RowKit Wr

set_option maxHeartbeats 2000000 in
set_option maxRecDepth 100000 in
theorem rnum_own1 (n : Nat) (w : World) (hn : n < 256) (r : List Nat) (hr : Hid (be 1 n = r)) :
    Calls Tryz.prog 47 #[.int .i64 n, .int .i64 1] w fun e w' => ∃ C m c, e = .returned (.slice C m c) ∧ w'.ownsRow w.heap.size 5 1 (.slice C m c) m (bcells r) ∧ Below w.heap.size w w' := by
  have y0 : ¬ (n : Int) < 0 := by omega
  have y1 : (n : Int) / 256 = 0 := by omega
  have y1' : (n : Int) / 2 ^ 8 = 0 := by rw [show ((2 : Int) ^ 8) = 256 from rfl]; omega
  have HN := Lib.hid hn; clear hn
  go_enter Tryz.func47, Tryz.ntmps47
  go_wp2
  go_loopw [5, 6] (fun v i W => ∃ (j m cC : Nat) (C : Option Addr) (y : Int), i = .int .i64 y ∧ v = .slice C m cC ∧ j ≤ 1 ∧ m = j ∧ y = 1 - 1 - (j : Int) ∧ Hid (W.ownsRow w.heap.size 5 1 (.slice C m cC) m (bcells ((be 1 n).take j))) ∧ Hid (Below w.heap.size w W)) (fun _ i _ => (intOf i + 1).toNat)
  case atStart => exact ⟨0, 0, 0, none, 0, rfl, rfl, by omega, rfl, by omega, Lib.hid ⟨rfl, .inl ⟨rfl, rfl⟩⟩, Lib.hid (Below.refl _ _)⟩
  case round =>
    obtain ⟨j, m, cC, C, y, rfl, rfl, hj, hm, hy, HO, HB⟩ := hrel
    by_cases hjk : j < 1
    · have hj' : j = 0 := by omega
      rcases hj' with rfl
      · obtain rfl : y = 0 := by omega
        subst hm
        have HSUC : Hid ((be 1 n).take 1 = (be 1 n).take 0 ++ [n % 256]) := Lib.hid (by rw [be_take_succ 1 n 0 (by omega)]; simp)
        obtain ⟨xs, hxs⟩ : ∃ xs, (be 1 n).take 0 = xs := ⟨_, rfl⟩
        rw [hxs] at HSUC HO
        obtain ⟨b, hb⟩ : ∃ b : Nat, n % 256 = b := ⟨_, rfl⟩
        rw [hb] at HSUC
        have HB3 := Lib.hid (show b < 256 by omega)
        have HBE := Lib.hid hb
        clear hxs hb hy hj hjk
        go_wp2_with (at_builtin; refine wpList_append_txt rfl (.tmp 42) (.tmp 48) rfl w.heap.size 0 1 1 _ xs [b] (some ⟨wr.heap.size, 0, none⟩) Any rfl rfl (HO.out.alloc _) (byte_rd wr b _ (by have := HBE.out; have := HN.out; omega) HB3.out) (by omega) (Nat.le_trans HB.out.size (by simp)) ?_)
        intro v' W2 hown hgrow hat
        obtain ⟨C', c', rfl⟩ := own_slice_of hown
        have HO3 := Lib.hid hown; have HB4 := Lib.hid (below_own (HB.out.alloc HB.out.size _) (HO.out.alloc _) (Nat.le_refl _) hgrow); clear hown hgrow hat
        go_wp2
        go_roundw
        case rel => exact ⟨1, 1, c', C', -1, by go_num, rfl, by omega, rfl, by omega, Lib.hid (by rw [HSUC.out]; exact HO3.out), HB4⟩
        case measure => simp [intOf]
    · obtain rfl : y = -1 := by omega
      obtain rfl : j = 1 := by omega
      subst hm
      clear hy hj hjk
      have HX := Lib.hid (show (be 1 n).take 1 = r by rw [← hr.out]; exact List.take_of_length_le (by rw [be_len]; omega))
      have HLT := Lib.hid (show ∀ j, gt r j < 256 by rw [← hr.out]; exact be_lt _ _)
      rw [HX.out] at HO
      have HOO := Lib.hid HO.out
      obtain ⟨C', c', e, hX⟩ := Txt.of_own HO.out HLT.out
      injection e with e1 _ e3
      subst e1 e3
      have HXX := Lib.hid hX; clear hX
      go_wp2
      go_ret
      exact ⟨_, _, _, rfl, HOO.out, HB.out⟩
set_option maxHeartbeats 2000000 in
set_option maxRecDepth 100000 in
theorem rnum_own2 (n : Nat) (w : World) (hn : n < 65536) (r : List Nat) (hr : Hid (be 2 n = r)) :
    Calls Tryz.prog 47 #[.int .i64 n, .int .i64 2] w fun e w' => ∃ C m c, e = .returned (.slice C m c) ∧ w'.ownsRow w.heap.size 5 1 (.slice C m c) m (bcells r) ∧ Below w.heap.size w w' := by
  have y0 : ¬ (n : Int) < 0 := by omega
  have y1 : (n : Int) / 65536 = 0 := by omega
  have y1' : (n : Int) / 2 ^ 16 = 0 := by rw [show ((2 : Int) ^ 16) = 65536 from rfl]; omega
  have HN := Lib.hid hn; clear hn
  go_enter Tryz.func47, Tryz.ntmps47
  go_wp2
  go_loopw [5, 6] (fun v i W => ∃ (j m cC : Nat) (C : Option Addr) (y : Int), i = .int .i64 y ∧ v = .slice C m cC ∧ j ≤ 2 ∧ m = j ∧ y = 2 - 1 - (j : Int) ∧ Hid (W.ownsRow w.heap.size 5 1 (.slice C m cC) m (bcells ((be 2 n).take j))) ∧ Hid (Below w.heap.size w W)) (fun _ i _ => (intOf i + 1).toNat)
  case atStart => exact ⟨0, 0, 0, none, 1, rfl, rfl, by omega, rfl, by omega, Lib.hid ⟨rfl, .inl ⟨rfl, rfl⟩⟩, Lib.hid (Below.refl _ _)⟩
  case round =>
    obtain ⟨j, m, cC, C, y, rfl, rfl, hj, hm, hy, HO, HB⟩ := hrel
    by_cases hjk : j < 2
    · have hj' : j = 0 ∨ j = 1 := by omega
      rcases hj' with rfl | rfl
      · obtain rfl : y = 1 := by omega
        subst hm
        have HSUC : Hid ((be 2 n).take 1 = (be 2 n).take 0 ++ [n / 256 % 256]) := Lib.hid (by rw [be_take_succ 2 n 0 (by omega)])
        obtain ⟨xs, hxs⟩ : ∃ xs, (be 2 n).take 0 = xs := ⟨_, rfl⟩
        rw [hxs] at HSUC HO
        obtain ⟨b, hb⟩ : ∃ b : Nat, n / 256 % 256 = b := ⟨_, rfl⟩
        rw [hb] at HSUC
        have HB3 := Lib.hid (show b < 256 by omega)
        have HBE := Lib.hid hb
        clear hxs hb hy hj hjk
        go_wp2_with (at_builtin; refine wpList_append_txt rfl (.tmp 42) (.tmp 48) rfl w.heap.size 0 1 1 _ xs [b] (some ⟨wr.heap.size, 0, none⟩) Any rfl rfl (HO.out.alloc _) (byte_rd wr b _ (by have := HBE.out; have := HN.out; omega) HB3.out) (by omega) (Nat.le_trans HB.out.size (by simp)) ?_)
        intro v' W2 hown hgrow hat
        obtain ⟨C', c', rfl⟩ := own_slice_of hown
        have HO3 := Lib.hid hown; have HB4 := Lib.hid (below_own (HB.out.alloc HB.out.size _) (HO.out.alloc _) (Nat.le_refl _) hgrow); clear hown hgrow hat
        go_wp2
        go_roundw
        case rel => exact ⟨1, 1, c', C', 0, by go_num, rfl, by omega, rfl, by omega, Lib.hid (by rw [HSUC.out]; exact HO3.out), HB4⟩
        case measure => simp [intOf]
      · obtain rfl : y = 0 := by omega
        subst hm
        have HSUC : Hid ((be 2 n).take 2 = (be 2 n).take 1 ++ [n % 256]) := Lib.hid (by rw [be_take_succ 2 n 1 (by omega)]; simp)
        obtain ⟨xs, hxs⟩ : ∃ xs, (be 2 n).take 1 = xs := ⟨_, rfl⟩
        rw [hxs] at HSUC HO
        obtain ⟨b, hb⟩ : ∃ b : Nat, n % 256 = b := ⟨_, rfl⟩
        rw [hb] at HSUC
        have HB3 := Lib.hid (show b < 256 by omega)
        have HBE := Lib.hid hb
        clear hxs hb hy hj hjk
        go_wp2_with (at_builtin; refine wpList_append_txt rfl (.tmp 42) (.tmp 48) rfl w.heap.size 1 1 1 _ xs [b] (some ⟨wr.heap.size, 0, none⟩) Any rfl rfl (HO.out.alloc _) (byte_rd wr b _ (by have := HBE.out; have := HN.out; omega) HB3.out) (by omega) (Nat.le_trans HB.out.size (by simp)) ?_)
        intro v' W2 hown hgrow hat
        obtain ⟨C', c', rfl⟩ := own_slice_of hown
        have HO3 := Lib.hid hown; have HB4 := Lib.hid (below_own (HB.out.alloc HB.out.size _) (HO.out.alloc _) (Nat.le_refl _) hgrow); clear hown hgrow hat
        go_wp2
        go_roundw
        case rel => exact ⟨2, 2, c', C', -1, by go_num, rfl, by omega, rfl, by omega, Lib.hid (by rw [HSUC.out]; exact HO3.out), HB4⟩
        case measure => simp [intOf]
    · obtain rfl : y = -1 := by omega
      obtain rfl : j = 2 := by omega
      subst hm
      clear hy hj hjk
      have HX := Lib.hid (show (be 2 n).take 2 = r by rw [← hr.out]; exact List.take_of_length_le (by rw [be_len]; omega))
      have HLT := Lib.hid (show ∀ j, gt r j < 256 by rw [← hr.out]; exact be_lt _ _)
      rw [HX.out] at HO
      have HOO := Lib.hid HO.out
      obtain ⟨C', c', e, hX⟩ := Txt.of_own HO.out HLT.out
      injection e with e1 _ e3
      subst e1 e3
      have HXX := Lib.hid hX; clear hX
      go_wp2
      go_ret
      exact ⟨_, _, _, rfl, HOO.out, HB.out⟩

set_option maxHeartbeats 1000000 in
set_option maxRecDepth 100000 in
theorem reftext_any (A : Option Addr) (s : List Nat) (n c : Nat) (w : World) (hA : Txt Any w A n c s) (hs : s.length ≤ 1990) :
    Calls Tryz.prog 86 #[.slice A n c] w (Wr.Told (txB s) w) := by
  have HC := Lib.hid (rtext_any A s n c w hA (txB s, 0) (Lib.hid (by unfold putT; rw [if_neg (by omega)])))
  clear hA
  go_enter Tryz.func86, Tryz.ntmps86
  go_wp2_with (first | (go_at_call 113; refine HC.out.mono ?_; rintro e' w1 ⟨X, m, x, rfl, hX, hB⟩; have HX := Lib.hid hX; have HB := Lib.hid hB; clear hX hB) | go_in)
  go_ret
  exact ⟨X, m, x, rfl, HX.out, HB.out⟩
/-- what is known of memory while a node's bytes are laid -/
structure RbS (q : NdQ) (w W : World) : Prop where
  nb : NdB q.k q.A1 q.n1 q.c1 q.A2 q.n2 q.c2 q.A3 q.n3 q.c3 q.A4 q.n4 q.c4 q.A5 q.n5 q.c5 W w.heap.size
  bl : Below w.heap.size w W
structure RbI (q : NdQ) (w : World) (v : Value) (m : Nat) (bs : List Nat) (W : World) : Prop where
  s : RbS q w W
  own : W.ownsRow (w.heap.size + 1) 5 1 v m (bcells bs)
theorem RbI.nb {q : NdQ} {w : World} {v : Value} {m : Nat} {bs : List Nat} {W : World} (x : RbI q w v m bs W) : NdB q.k q.A1 q.n1 q.c1 q.A2 q.n2 q.c2 q.A3 q.n3 q.c3 q.A4 q.n4 q.c4 q.A5 q.n5 q.c5 W w.heap.size := x.s.nb
theorem RbI.bl {q : NdQ} {w : World} {v : Value} {m : Nat} {bs : List Nat} {W : World} (x : RbI q w v m bs W) : Below w.heap.size w W := x.s.bl
theorem RbI.below {q : NdQ} {w : World} {v : Value} {m : Nat} {bs : List Nat} {W W' : World} (x : RbI q w v m bs W) (hb : Below W.heap.size W W') : RbI q w v m bs W' :=
  ⟨⟨x.nb.below hb x.nb.lt, x.bl.trans (hb.mono x.bl.size)⟩, own_belowG x.own hb⟩
theorem RbI.drew {q : NdQ} {w : World} {v : Value} {m : Nat} {bs : List Nat} {W : World} (x : RbI q w v m bs W) : RbI q w v m bs W.drew := ⟨⟨x.nb, x.bl.drew⟩, own_belowG x.own (Below.refl _ _).drew⟩
theorem RbI.grown {q : NdQ} {w : World} {v v' : Value} {m m' : Nat} {bs bs' : List Nat} {W W' : World} (x : RbI q w v m bs W) (hg : W.grownBy W' v.ownBlock) (ho : W'.ownsRow (w.heap.size + 1) 5 1 v' m' (bcells bs'))
    (hat : v'.ownBlock = v.ownBlock ∨ v'.ownBlock = some W.heap.size) : RbI q w v' m' bs' W' :=
  ⟨⟨(hg.block _ x.nb.lt fun e => by have := (x.own.lt _ e.symm).1; omega).trans x.nb, below_ownG x.bl x.own (by omega) hg⟩, ho⟩

set_option maxHeartbeats 8000000 in
set_option maxRecDepth 100000 in
theorem refBytes_own (q : NdQ) (n : Nd) (w : World) (hq : NdIs Any w q n) (hs : Small n) :
    Calls Tryz.prog 48 #[.agg q.cs] w fun e w' => ∃ C m c, e = .returned (.slice C m c) ∧ w'.ownsRow (w.heap.size + 1) 5 1 (.slice C m c) m (bcells (nodeB n)) ∧ Below w.heap.size w w' := by
  have HQ := Lib.hid hq; have HS := Lib.hid hs
  have hu5 := hq.un.len
  have hn5 : q.n5 ≤ 100 := by rw [← hu5]; exact hs.un
  have HU5 := Lib.hid hu5
  obtain ⟨kk, hkk⟩ : ∃ kk : Nat, n.kind = kk := Int.eq_ofNat_of_zero_le hs.k.1
  have hk256 : kk < 256 := by have := hs.k.2; omega
  have hqk : q.k = kk := by rw [hq.k, hkk]
  have HKK := Lib.hid (show n.kind.toNat = kk by rw [hkk]; rfl)
  have hnb := NdB.new (k := q.k) (A1 := q.A1) (n1 := q.n1) (c1 := q.c1) (A2 := q.A2) (n2 := q.n2) (c2 := q.c2) (A3 := q.A3) (n3 := q.n3) (c3 := q.c3) (A4 := q.A4) (n4 := q.n4) (c4 := q.c4) (A5 := q.A5) (n5 := q.n5) (c5 := q.c5) w
  have hb0 := below_one w (.cells q.cs 37)
  have hs0 : (w.alloc (.cells q.cs 37)).heap.size = w.heap.size + 1 := by simp
  have HEND := Lib.hid (nodeB_eq n)
  clear hq hs hkk hu5
  obtain ⟨k, A1, n1, c1, A2, n2, c2, A3, n3, c3, A4, n4, c4, A5, n5, c5⟩ := q
  dsimp only [NdQ.cs] at *
  subst hqk
  go_enter Tryz.func48, Tryz.ntmps48
  have HL1 := Lib.hid (show (txB n.ek).length ≤ 1995 by rw [txB_len]; have := HS.out.ek; have := (szB_pos n.ek.length).2; omega)
  have HL2 := Lib.hid (show (txB n.vk).length ≤ 1995 by rw [txB_len]; have := HS.out.vk; have := (szB_pos n.vk.length).2; omega)
  have HL3 := Lib.hid (show (txB n.name).length ≤ 1995 by rw [txB_len]; have := HS.out.nm; have := (szB_pos n.name.length).2; omega)
  have HL4 := Lib.hid (show (txB n.above).length ≤ 1995 by rw [txB_len]; have := HS.out.ab; have := (szB_pos n.above.length).2; omega)
  go_wp2_with fail
  obtain ⟨w0, hw0⟩ : ∃ w0, w.alloc (.cells (ndc (kk : Int) A1 n1 c1 A2 n2 c2 A3 n3 c3 A4 n4 c4 A5 n5 c5) 37) = w0 := ⟨_, rfl⟩
  simp only [hw0] at hnb hb0 hs0 ⊢
  clear hw0
  have HNB := Lib.hid hnb; have HB0 := Lib.hid hb0
  clear hnb hb0
  refine (rnum_own1 kk w0 hk256 _ (Lib.hid (show be 1 kk = be 1 n.kind.toNat by rw [HKK.out]))).mono ?_
  rintro e' w1 ⟨C0, m, cz, rfl, ho1, hb1⟩
  obtain rfl : m = 1 := by have := own_len5 ho1; rw [be_len] at this; exact this.symm
  have HIw1 : Hid (RbI ⟨kk, A1, n1, c1, A2, n2, c2, A3, n3, c3, A4, n4, c4, A5, n5, c5⟩ w (.slice C0 1 cz) 1 (be 1 n.kind.toNat) w1) := Lib.hid ⟨⟨HNB.out.below hb1 (by omega), HB0.out.trans (hb1.mono HB0.out.size)⟩, own_downG ho1 (by omega)⟩
  clear ho1 hb1 HNB HB0
  go_wp2_with fail
  have HIwd2 : Hid (RbI ⟨kk, A1, n1, c1, A2, n2, c2, A3, n3, c3, A4, n4, c4, A5, n5, c5⟩ w (.slice C0 1 cz) 1 (be 1 n.kind.toNat) w1.drew) := Lib.hid HIw1.out.drew
  have HSwd2 := Lib.hid HIwd2.out.s
  clear HIw1
  try simp only [Act.put]
  refine Wr.region_calm ?_
  refine wp_region_any (by kernel_rfl) ?_
  change wpAny _ _ _ _ _ _ _ (World.drew w1)
  generalize World.drew w1 = wd2 at *
  refine wpAny_of_held (S := fun W => RbS ⟨kk, A1, n1, c1, A2, n2, c2, A3, n3, c3, A4, n4, c4, A5, n5, c5⟩ w W) _ _ _ _ ?_
  refine wpAnyH_take (i := 0) (v := ?ve1) rfl (by kernel_rfl) (by kernel_rfl) (by kernel_rfl) (fun _ _ _ h => h) (Or.inl ⟨by rfl, ?ye1⟩) HSwd2.out ?re1
  case ye1 => (intro w' hSw; clear hSw; go_simp; try with_reducible rfl)
  simp only [List.getElem_toArray, List.getElem_cons_succ, List.getElem_cons_zero, Act.put, List.setIfInBounds_toArray, List.set_cons_zero, List.set_cons_succ]
  refine wpAnyH_take (i := 1) (v := ?ve2) rfl (by kernel_rfl) (by kernel_rfl) (by kernel_rfl) (fun _ _ _ h => h) (Or.inl ⟨by rfl, ?ye2⟩) HSwd2.out ?re2
  case ye2 => (intro w' hSw; clear hSw; go_simp; try with_reducible rfl)
  simp only [List.getElem_toArray, List.getElem_cons_succ, List.getElem_cons_zero, Act.put, List.setIfInBounds_toArray, List.set_cons_zero, List.set_cons_succ]
  refine wpAnyH_take (i := 2) (v := ?ve3) rfl (by kernel_rfl) (by kernel_rfl) (by kernel_rfl) (fun _ _ _ h => h) (Or.inl ⟨by rfl, ?ye3⟩) HSwd2.out ?re3
  case ye3 => (intro w' hSw; obtain ⟨t0, t1, t2, t3, t4, t5⟩ := hSw.nb.cs; clear hSw; go_simp; try with_reducible rfl)
  simp only [List.getElem_toArray, List.getElem_cons_succ, List.getElem_cons_zero, Act.put, List.setIfInBounds_toArray, List.set_cons_zero, List.set_cons_succ]
  refine wpAnyH_take (i := 5) (v := ?ve4) rfl (by kernel_rfl) (by kernel_rfl) (by kernel_rfl) (fun _ _ _ h => h) (Or.inl ⟨by rfl, ?ye4⟩) HSwd2.out ?re4
  case ye4 => (intro w' hSw; clear hSw; go_simp; try with_reducible rfl)
  simp only [List.getElem_toArray, List.getElem_cons_succ, List.getElem_cons_zero, Act.put, List.setIfInBounds_toArray, List.set_cons_zero, List.set_cons_succ]
  refine wpAnyH_take (i := 6) (v := ?ve5) rfl (by kernel_rfl) (by kernel_rfl) (by kernel_rfl) (fun _ _ _ h => h) (Or.inl ⟨by rfl, ?ye5⟩) HSwd2.out ?re5
  case ye5 => (intro w' hSw; obtain ⟨t0, t1, t2, t3, t4, t5⟩ := hSw.nb.cs; clear hSw; go_simp; try with_reducible rfl)
  simp only [List.getElem_toArray, List.getElem_cons_succ, List.getElem_cons_zero, Act.put, List.setIfInBounds_toArray, List.set_cons_zero, List.set_cons_succ]
  refine wpAnyH_ready (rs := [3]) (by kernel_rfl) (by simp) ?_
  refine AllReadyH.cons rfl (fun K' hK => ?_) AllReadyH.nil
  simp only [List.getElem_toArray, List.getElem_cons_succ, List.getElem_cons_zero]
  go_simp
  refine (reftext_any A1 n.ek n1 c1 wd2 (HQ.out.ek.below HIwd2.out.bl) (by have := HS.out.ek; omega)).mono ?_
  rintro e' u0 ⟨X0, m0, x0, rfl, hX, hb⟩
  have HX0 := Lib.hid hX.any; have hm0 := hX.len; have HIu0 := Lib.hid (HIwd2.out.below hb); have HSu0 := Lib.hid HIu0.out.s
  clear hb hX
  refine hK.out _ _ HSu0.out (fun _ => ?_)
  clear hK
  try simp only [List.getElem_toArray, List.getElem_cons_succ, List.getElem_cons_zero, Act.put, List.setIfInBounds_toArray, List.set_cons_zero, List.set_cons_succ]
  refine wpAnyH_ready (rs := [4]) (by kernel_rfl) (by simp) ?_
  refine AllReadyH.cons rfl (fun K' hK => ?_) AllReadyH.nil
  simp only [List.getElem_toArray, List.getElem_cons_succ, List.getElem_cons_zero]
  rw [if_pos (by rfl)]
  refine wp_append_txt (.tmp 8) (.tmp 11) rfl (w.heap.size + 1) (1) m0 x0 _ (be 1 n.kind.toNat) (txB n.ek) X0 Any rfl rfl HIu0.out.own HX0.out (by have := HL1.out; have := HL2.out; have := HL3.out; have := HL4.out; omega) (by have := HIu0.out.nb.lt; omega) ?_
  intro v' v0 hown hgrow hat
  obtain ⟨C0, y0, rfl⟩ := own_sliceG hown
  have HIv0 := Lib.hid (HIu0.out.grown hgrow hown hat); have HSv0 := Lib.hid HIv0.out.s
  clear hown hgrow hat
  refine hK.out _ _ HSv0.out (fun _ => ?_)
  clear hK
  try simp only [List.getElem_toArray, List.getElem_cons_succ, List.getElem_cons_zero, Act.put, List.setIfInBounds_toArray, List.set_cons_zero, List.set_cons_succ]
  refine wpAnyH_ready (rs := [7]) (by kernel_rfl) (by simp) ?_
  refine AllReadyH.cons rfl (fun K' hK => ?_) AllReadyH.nil
  simp only [List.getElem_toArray, List.getElem_cons_succ, List.getElem_cons_zero]
  go_simp
  refine (reftext_any A2 n.vk n2 c2 v0 (HQ.out.vk.below HIv0.out.bl) (by have := HS.out.vk; omega)).mono ?_
  rintro e' u1 ⟨X1, m1, x1, rfl, hX, hb⟩
  have HX1 := Lib.hid hX.any; have hm1 := hX.len; have HIu1 := Lib.hid (HIv0.out.below hb); have HSu1 := Lib.hid HIu1.out.s
  clear hb hX
  refine hK.out _ _ HSu1.out (fun _ => ?_)
  clear hK
  try simp only [List.getElem_toArray, List.getElem_cons_succ, List.getElem_cons_zero, Act.put, List.setIfInBounds_toArray, List.set_cons_zero, List.set_cons_succ]
  refine wpAnyH_ready (rs := [8]) (by kernel_rfl) (by simp) ?_
  refine AllReadyH.cons rfl (fun K' hK => ?_) AllReadyH.nil
  simp only [List.getElem_toArray, List.getElem_cons_succ, List.getElem_cons_zero]
  rw [if_pos (by rfl)]
  refine wp_append_txt (.tmp 12) (.tmp 15) rfl (w.heap.size + 1) (1 + m0) m1 x1 _ (be 1 n.kind.toNat ++ txB n.ek) (txB n.vk) X1 Any rfl rfl HIu1.out.own HX1.out (by have := HL1.out; have := HL2.out; have := HL3.out; have := HL4.out; omega) (by have := HIu1.out.nb.lt; omega) ?_
  intro v' v1 hown hgrow hat
  obtain ⟨C1, y1, rfl⟩ := own_sliceG hown
  have HIv1 := Lib.hid (HIu1.out.grown hgrow hown hat); have HSv1 := Lib.hid HIv1.out.s
  clear hown hgrow hat
  refine hK.out _ _ HSv1.out (fun _ => ?_)
  clear hK
  try simp only [List.getElem_toArray, List.getElem_cons_succ, List.getElem_cons_zero, Act.put, List.setIfInBounds_toArray, List.set_cons_zero, List.set_cons_succ]
  refine wpAnyH_take (i := 9) (v := ?ve6) rfl (by kernel_rfl) (by kernel_rfl) (by kernel_rfl) (fun _ _ _ h => h) (Or.inl ⟨by rfl, ?ye6⟩) HSv1.out ?re6
  case ye6 => (intro w' hSw; clear hSw; go_simp; try with_reducible rfl)
  simp only [List.getElem_toArray, List.getElem_cons_succ, List.getElem_cons_zero, Act.put, List.setIfInBounds_toArray, List.set_cons_zero, List.set_cons_succ]
  refine wpAnyH_done (by kernel_rfl) ?_ _
  change Exit.then _ _ Exit.normal _ _
  have hq1 : m0 + m1 ≤ 3990 := by have := HL1.out; have := HL2.out; omega
  have HIwd3 : Hid (RbI ⟨kk, A1, n1, c1, A2, n2, c2, A3, n3, c3, A4, n4, c4, A5, n5, c5⟩ w (.slice C1 (1 + m0 + m1) y1) (1 + m0 + m1) (be 1 n.kind.toNat ++ txB n.ek ++ txB n.vk) v1.drew) := Lib.hid HIv1.out.drew
  have HSwd3 := Lib.hid HIwd3.out.s
  clear HIwd2 HSwd2 HIu0 HSu0 HIv0 HSv0 HIu1 HSu1 HSv1 HX0 HX1 HIv1
  go_wp2_with fail
  try simp only [Act.put]
  refine Wr.region_calm ?_
  refine wp_region_any (by kernel_rfl) ?_
  change wpAny _ _ _ _ _ _ _ (World.drew v1)
  generalize World.drew v1 = wd3 at *
  refine wpAny_of_held (S := fun W => RbS ⟨kk, A1, n1, c1, A2, n2, c2, A3, n3, c3, A4, n4, c4, A5, n5, c5⟩ w W) _ _ _ _ ?_
  refine wpAnyH_take (i := 0) (v := ?ve7) rfl (by kernel_rfl) (by kernel_rfl) (by kernel_rfl) (fun _ _ _ h => h) (Or.inl ⟨by rfl, ?ye7⟩) HSwd3.out ?re7
  case ye7 => (intro w' hSw; clear hSw; go_simp; try with_reducible rfl)
  simp only [List.getElem_toArray, List.getElem_cons_succ, List.getElem_cons_zero, Act.put, List.setIfInBounds_toArray, List.set_cons_zero, List.set_cons_succ]
  refine wpAnyH_take (i := 1) (v := ?ve8) rfl (by kernel_rfl) (by kernel_rfl) (by kernel_rfl) (fun _ _ _ h => h) (Or.inl ⟨by rfl, ?ye8⟩) HSwd3.out ?re8
  case ye8 => (intro w' hSw; clear hSw; go_simp; try with_reducible rfl)
  simp only [List.getElem_toArray, List.getElem_cons_succ, List.getElem_cons_zero, Act.put, List.setIfInBounds_toArray, List.set_cons_zero, List.set_cons_succ]
  refine wpAnyH_take (i := 2) (v := ?ve9) rfl (by kernel_rfl) (by kernel_rfl) (by kernel_rfl) (fun _ _ _ h => h) (Or.inl ⟨by rfl, ?ye9⟩) HSwd3.out ?re9
  case ye9 => (intro w' hSw; obtain ⟨t0, t1, t2, t3, t4, t5⟩ := hSw.nb.cs; clear hSw; go_simp; try with_reducible rfl)
  simp only [List.getElem_toArray, List.getElem_cons_succ, List.getElem_cons_zero, Act.put, List.setIfInBounds_toArray, List.set_cons_zero, List.set_cons_succ]
  refine wpAnyH_take (i := 5) (v := ?ve10) rfl (by kernel_rfl) (by kernel_rfl) (by kernel_rfl) (fun _ _ _ h => h) (Or.inl ⟨by rfl, ?ye10⟩) HSwd3.out ?re10
  case ye10 => (intro w' hSw; clear hSw; go_simp; try with_reducible rfl)
  simp only [List.getElem_toArray, List.getElem_cons_succ, List.getElem_cons_zero, Act.put, List.setIfInBounds_toArray, List.set_cons_zero, List.set_cons_succ]
  refine wpAnyH_take (i := 6) (v := ?ve11) rfl (by kernel_rfl) (by kernel_rfl) (by kernel_rfl) (fun _ _ _ h => h) (Or.inl ⟨by rfl, ?ye11⟩) HSwd3.out ?re11
  case ye11 => (intro w' hSw; obtain ⟨t0, t1, t2, t3, t4, t5⟩ := hSw.nb.cs; clear hSw; go_simp; try with_reducible rfl)
  simp only [List.getElem_toArray, List.getElem_cons_succ, List.getElem_cons_zero, Act.put, List.setIfInBounds_toArray, List.set_cons_zero, List.set_cons_succ]
  refine wpAnyH_ready (rs := [3]) (by kernel_rfl) (by simp) ?_
  refine AllReadyH.cons rfl (fun K' hK => ?_) AllReadyH.nil
  simp only [List.getElem_toArray, List.getElem_cons_succ, List.getElem_cons_zero]
  go_simp
  refine (reftext_any A3 n.name n3 c3 wd3 (HQ.out.nm.below HIwd3.out.bl) (by have := HS.out.nm; omega)).mono ?_
  rintro e' u2 ⟨X2, m2, x2, rfl, hX, hb⟩
  have HX2 := Lib.hid hX.any; have hm2 := hX.len; have HIu2 := Lib.hid (HIwd3.out.below hb); have HSu2 := Lib.hid HIu2.out.s
  clear hb hX
  refine hK.out _ _ HSu2.out (fun _ => ?_)
  clear hK
  try simp only [List.getElem_toArray, List.getElem_cons_succ, List.getElem_cons_zero, Act.put, List.setIfInBounds_toArray, List.set_cons_zero, List.set_cons_succ]
  refine wpAnyH_ready (rs := [4]) (by kernel_rfl) (by simp) ?_
  refine AllReadyH.cons rfl (fun K' hK => ?_) AllReadyH.nil
  simp only [List.getElem_toArray, List.getElem_cons_succ, List.getElem_cons_zero]
  rw [if_pos (by rfl)]
  refine wp_append_txt (.tmp 17) (.tmp 20) rfl (w.heap.size + 1) (1 + m0 + m1) m2 x2 _ (be 1 n.kind.toNat ++ txB n.ek ++ txB n.vk) (txB n.name) X2 Any rfl rfl HIu2.out.own HX2.out (by have := HL1.out; have := HL2.out; have := HL3.out; have := HL4.out; omega) (by have := HIu2.out.nb.lt; omega) ?_
  intro v' v2 hown hgrow hat
  obtain ⟨C2, y2, rfl⟩ := own_sliceG hown
  have HIv2 := Lib.hid (HIu2.out.grown hgrow hown hat); have HSv2 := Lib.hid HIv2.out.s
  clear hown hgrow hat
  refine hK.out _ _ HSv2.out (fun _ => ?_)
  clear hK
  try simp only [List.getElem_toArray, List.getElem_cons_succ, List.getElem_cons_zero, Act.put, List.setIfInBounds_toArray, List.set_cons_zero, List.set_cons_succ]
  refine wpAnyH_ready (rs := [7]) (by kernel_rfl) (by simp) ?_
  refine AllReadyH.cons rfl (fun K' hK => ?_) AllReadyH.nil
  simp only [List.getElem_toArray, List.getElem_cons_succ, List.getElem_cons_zero]
  go_simp
  refine (reftext_any A4 n.above n4 c4 v2 (HQ.out.ab.below HIv2.out.bl) (by have := HS.out.ab; omega)).mono ?_
  rintro e' u3 ⟨X3, m3, x3, rfl, hX, hb⟩
  have HX3 := Lib.hid hX.any; have hm3 := hX.len; have HIu3 := Lib.hid (HIv2.out.below hb); have HSu3 := Lib.hid HIu3.out.s
  clear hb hX
  refine hK.out _ _ HSu3.out (fun _ => ?_)
  clear hK
  try simp only [List.getElem_toArray, List.getElem_cons_succ, List.getElem_cons_zero, Act.put, List.setIfInBounds_toArray, List.set_cons_zero, List.set_cons_succ]
  refine wpAnyH_ready (rs := [8]) (by kernel_rfl) (by simp) ?_
  refine AllReadyH.cons rfl (fun K' hK => ?_) AllReadyH.nil
  simp only [List.getElem_toArray, List.getElem_cons_succ, List.getElem_cons_zero]
  rw [if_pos (by rfl)]
  refine wp_append_txt (.tmp 21) (.tmp 24) rfl (w.heap.size + 1) (1 + m0 + m1 + m2) m3 x3 _ (be 1 n.kind.toNat ++ txB n.ek ++ txB n.vk ++ txB n.name) (txB n.above) X3 Any rfl rfl HIu3.out.own HX3.out (by have := HL1.out; have := HL2.out; have := HL3.out; have := HL4.out; omega) (by have := HIu3.out.nb.lt; omega) ?_
  intro v' v3 hown hgrow hat
  obtain ⟨C3, y3, rfl⟩ := own_sliceG hown
  have HIv3 := Lib.hid (HIu3.out.grown hgrow hown hat); have HSv3 := Lib.hid HIv3.out.s
  clear hown hgrow hat
  refine hK.out _ _ HSv3.out (fun _ => ?_)
  clear hK
  try simp only [List.getElem_toArray, List.getElem_cons_succ, List.getElem_cons_zero, Act.put, List.setIfInBounds_toArray, List.set_cons_zero, List.set_cons_succ]
  refine wpAnyH_take (i := 9) (v := ?ve12) rfl (by kernel_rfl) (by kernel_rfl) (by kernel_rfl) (fun _ _ _ h => h) (Or.inl ⟨by rfl, ?ye12⟩) HSv3.out ?re12
  case ye12 => (intro w' hSw; clear hSw; go_simp; try with_reducible rfl)
  simp only [List.getElem_toArray, List.getElem_cons_succ, List.getElem_cons_zero, Act.put, List.setIfInBounds_toArray, List.set_cons_zero, List.set_cons_succ]
  refine wpAnyH_done (by kernel_rfl) ?_ _
  change Exit.then _ _ Exit.normal _ _
  have hq3 : m2 + m3 ≤ 3990 := by have := HL3.out; have := HL4.out; omega
  have HI : Hid (RbI ⟨kk, A1, n1, c1, A2, n2, c2, A3, n3, c3, A4, n4, c4, A5, n5, c5⟩ w (.slice C3 (1 + m0 + m1 + m2 + m3) y3) (1 + m0 + m1 + m2 + m3) (upTo4 n 4) v3) := Lib.hid (by
    have := HIv3.out
    rw [show upTo4 n 4 = be 1 n.kind.toNat ++ txB n.ek ++ txB n.vk ++ txB n.name ++ txB n.above from rfl]
    exact this)
  clear HIwd3 HSwd3 HIu2 HSu2 HIv2 HSv2 HIu3 HSu3 HSv3 HX2 HX3 HIv3
  obtain ⟨mm, hmm⟩ : ∃ mm, 1 + m0 + m1 + m2 + m3 = mm := ⟨_, rfl⟩
  have hmb : mm ≤ 7981 := by omega
  rw [hmm] at HI ⊢
  clear hmm hq1 hq3 hm0 hm1 hm2 hm3
  obtain ⟨t0, t1, t2, t3, t4, t5⟩ := HI.out.nb.cs
  have HN2 := Lib.hid (rnum_own2 n5 v3 (by omega) _ (Lib.hid rfl))
  clear t0 t1 t2 t3 t4
  go_wp2_with (first
    | (go_at_call 47; refine HN2.out.mono ?_; rintro e' w3 ⟨Cn, mn, cn, rfl, ho3, hB3⟩; obtain rfl : mn = 2 := (by have := own_len5 ho3; rw [be_len] at this; exact this.symm); have HX3 := Lib.hid (Txt.of_own ho3 (be_lt _ _)); have HI3 := Lib.hid (HI.out.below hB3); clear ho3 hB3)
    | (at_builtin; (obtain ⟨AX, cX, e3, hX3⟩ := HX3.out); (injection e3 with ea eb ec); subst ea ec; refine wpList_append_txt rfl (.tmp 26) (.tmp 30) rfl (w.heap.size + 1) mm 2 _ _ (upTo4 n 4) (be 2 n5) _ Any rfl rfl HI3.out.own hX3.any (by omega) (by have := HI3.out.nb.lt; omega) ?_)
    | go_in)
  intro v' w4 hown hgrow hat
  obtain ⟨C', c', rfl⟩ := own_sliceG hown
  have HI4 : Hid (RbI ⟨kk, A1, n1, c1, A2, n2, c2, A3, n3, c3, A4, n4, c4, A5, n5, c5⟩ w (.slice C' (mm + 2) c') (mm + 2) (upTo4 n 4 ++ be 2 n5 ++ unB (n.un.take 0)) w4) := Lib.hid (HI3.out.grown hgrow (by rw [show unB (n.un.take 0) = [] from rfl, List.append_nil]; exact hown) hat)
  clear hown hgrow hat HX3 HI3 HI t5
  go_wp2_with fail
  go_loopw [3, 4] (fun v i W => ∃ (k m : Nat) (C : Option Addr) (cc : Nat), k ≤ n5 ∧ i = .int .i64 k ∧ v = .slice C m cc ∧ m ≤ 8003 + 2 * k ∧ Hid (RbI ⟨kk, A1, n1, c1, A2, n2, c2, A3, n3, c3, A4, n4, c4, A5, n5, c5⟩ w (.slice C m cc) m (upTo4 n 4 ++ be 2 n5 ++ unB (n.un.take k)) W)) (fun v i _ => n5 - (intOf i).toNat)
  case atStart => exact ⟨0, mm + 2, C', c', by omega, rfl, rfl, by omega, HI4⟩
  case round =>
    clear HI4 hmb
    obtain ⟨k, m, C, cc, hk, rfl, rfl, hm, HI⟩ := hrel
    obtain ⟨t0, t1, t2, t3, t4, t5⟩ := HI.out.nb.cs
    clear t0 t1 t2 t3 t4
    by_cases hkn : k < n5
    · have yk : (k : Int) < (n5 : Int) := by omega
      obtain ⟨ad, rfl⟩ := HQ.out.un.some (by show 0 < n5; omega)
      have hc := (HQ.out.un.below HI.out.bl).cell k hkn
      obtain ⟨hx0, hx1⟩ := HS.out.each (gi n.un k) (gi_mem (by rw [HU5.out]; exact hkn))
      have HUN := Lib.hid (unB_take n.un k (by rw [HU5.out]; exact hkn))
      obtain ⟨x, hx⟩ : ∃ x : Nat, gi n.un k = x := Int.eq_ofNat_of_zero_le hx0
      rw [hx] at hc HUN hx1
      have hc' : wr.cell? (ad.add k) = some (.int .i64 (x : Int)) := hc
      have HN3 := Lib.hid (rnum_own2 x wr (by omega) _ (Lib.hid rfl))
      rw [Int.toNat_natCast] at HUN
      clear hx hx0 hx1 hc
      go_wp2_with (first
        | (go_at_call 47; refine HN3.out.mono ?_; rintro e' w3 ⟨Cn, mn, cn, rfl, ho3, hB3⟩; obtain rfl : mn = 2 := (by have := own_len5 ho3; rw [be_len] at this; exact this.symm); have HX3 := Lib.hid (Txt.of_own ho3 (be_lt _ _)); have HI3 := Lib.hid (HI.out.below hB3); clear ho3 hB3)
        | (at_builtin; (obtain ⟨AX, cX, e3, hX3⟩ := HX3.out); (injection e3 with ea eb ec); subst ea ec; refine wpList_append_txt rfl (.tmp 39) (.tmp 45) rfl (w.heap.size + 1) m 2 _ _ (upTo4 n 4 ++ be 2 n5 ++ unB (n.un.take k)) (be 2 x) _ Any rfl rfl HI3.out.own hX3.any (by omega) (by have := HI3.out.nb.lt; omega) ?_)
        | go_in)
      intro v' w4 hown hgrow hat
      obtain ⟨C', c', rfl⟩ := own_sliceG hown
      have HI4 : Hid (RbI ⟨kk, A1, n1, c1, A2, n2, c2, A3, n3, c3, A4, n4, c4, some ad, n5, c5⟩ w (.slice C' (m + 2) c') (m + 2) (upTo4 n 4 ++ be 2 n5 ++ unB (n.un.take (k + 1))) w4) := Lib.hid (HI3.out.grown hgrow (by rw [HUN.out]; simpa only [List.append_assoc] using hown) hat)
      clear hown hgrow hat
      go_wp2
      go_roundw
      case rel => exact ⟨k + 1, m + 2, C', c', by omega, by go_num, rfl, by omega, HI4⟩
      case measure => simp [intOf]; omega
    · have yk : ¬ (k : Int) < (n5 : Int) := by omega
      obtain rfl : k = n5 := by omega
      go_wp2
      go_ret
      refine ⟨C, m, cc, rfl, ?_, HI.out.bl⟩
      have := HI.out.own
      rw [List.take_of_length_le (by rw [HU5.out]; omega)] at this
      rw [← HEND.out, HU5.out]
      exact this
end Go.Proofs.YtophnoaneoeiaaaGreatDoor.Rt
