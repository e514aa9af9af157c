/- Walks: nodeBytes. Written by tools/mk_rtbytes.py. -/
import Derived.Test.YtakglldffpnlaaaGreatDoorRtM1
import Derived.Test.YtakglldffpnlaaaGreatDoorWrM2
namespace Go.Proofs.YtakglldffpnlaaaGreatDoor.Rt
set_option linter.all false
open Go.RowKit Wr

set_option maxHeartbeats 1000000 in
set_option maxRecDepth 100000 in
theorem number_own (n k : Nat) (w : World) (hk : k = 1 ∨ k = 2 ∨ k = 4 ∨ k = 8) (hn : n < 256 ^ k) (hn' : n < 9223372036854775808) :
    Calls Tryz.prog 44 #[.int .i64 n, .int .i64 k] w fun e w' => e = .returned (.slice (some ⟨w.heap.size, 0, none⟩) k k) ∧ w'.ownsRow w.heap.size 5 1 (.slice (some ⟨w.heap.size, 0, none⟩) k k) k (bcells (be k n)) ∧ Below w.heap.size w w' := by
  have hk8 : 1 ≤ k ∧ k ≤ 8 := by omega
  have hoS : okS (k : Int) = true := by rcases hk with rfl | rfl | rfl | rfl <;> rfl
  have hmk := fun W => run_make_row' (P := Tryz.prog) 25 5 (.int .u8 0) 1 Tryz.underlying25 (by kernel_rfl) rfl .i64 .i64 k (by omega) (by omega) W
  have y0 : ¬ (n : Int) < 0 := by omega
  have y1 := shr_zero hn
  have HR0 : Hid ((w.alloc (.cells (madeCells #[Value.int IntKind.u8 0] k) 5)).rowIs w.heap.size 5 k (beRow k n 0)) := Lib.hid ((World.rowIs_made w (.int .u8 0) k 5).congr fun j hj => by simp [beRow])
  have HB0 := Lib.hid ((Below.refl w.heap.size w).alloc (Nat.le_refl _) (.cells (madeCells #[Value.int IntKind.u8 0] k) 5))
  have HN := Lib.hid hn; clear hn
  go_enter Tryz.func44, Tryz.ntmps44
  go_wp2_with fail
  refine (isSize_any k w).mono ?_
  rintro e' w1 ⟨rfl, rfl⟩
  rw [hoS]
  go_wp2
  generalize w.alloc (.cells (madeCells #[Value.int IntKind.u8 0] k) 5) = W0 at *
  go_loopw [25] (fun i W => ∃ j : Nat, j ≤ k ∧ i = .int .i64 j ∧ Hid (W.rowIs w.heap.size 5 k (beRow k n j)) ∧ Hid (Below w.heap.size w W)) (fun i _ => k - (intOf i).toNat)
  case atStart => exact ⟨0, by omega, rfl, HR0, HB0⟩
  case round =>
    obtain ⟨j, hj, rfl, HR1, HB1⟩ := hrel
    by_cases hjk : j < k
    · have c0 := HR1.out.cell (i := j) hjk
      have f0 := HR1.out.frozen j
      have yj : (j : Int) < (k : Int) := by omega
      go_wp2
      go_roundw
      case rel => exact ⟨j + 1, by omega, by go_num, Lib.hid (beRow_succ HR1.out hjk (by rw [Int.natCast_emod, Int.natCast_ediv, Int.natCast_pow, show ((256 : Nat) : Int) = 2 ^ 8 from rfl, ← Int.pow_mul]; simp)), Lib.hid (HB1.out.setCell (Nat.le_refl _) _)⟩
      case measure => simp [intOf]; omega
    · obtain rfl : j = k := by omega
      go_wp2
      go_ret
      exact ⟨rfl, own_of_row (bs := be j n) (HR1.out.congr fun i hi => by unfold beRow byteRow wordRow; rw [if_pos hi]) (be_len _ _) (by unfold maxLen; omega) (Nat.le_refl _), HB1.out⟩


/-- while a node's bytes are laid -/
structure NbI (q : NdQ) (w : World) (h : Nat) (cs : Array Value) (v : Value) (m : Nat) (bs : List Nat) (W : World) : Prop where
  nb : NdB q.k q.A1 q.n1 q.c1 q.A2 q.n2 q.c2 q.A3 q.n3 q.c3 q.A4 q.n4 q.c4 q.A5 q.n5 q.c5 W w.heap.size
  hh : W.heap[h]? = some (.cells cs 25 (0, 0))
  own : W.ownsRow (w.heap.size + 1) 5 1 v m (bcells bs)
  ne : ∀ b, v.ownBlock = some b → b ≠ h
  bl : Below w.heap.size w W
theorem NbI.below {q : NdQ} {w : World} {h : Nat} {cs : Array Value} {v : Value} {m : Nat} {bs : List Nat} {W W' : World} (x : NbI q w h cs v m bs W) (hb : Below W.heap.size W W') : NbI q w h cs v m bs W' :=
  ⟨x.nb.below hb x.nb.lt, (hb.block h (Array.getElem?_eq_some_iff.1 x.hh).1).trans x.hh, own_belowG x.own hb, x.ne, x.bl.trans (hb.mono x.bl.size)⟩
theorem NbI.grown {q : NdQ} {w : World} {h : Nat} {cs : Array Value} {v v' : Value} {m m' : Nat} {bs bs' : List Nat} {W W' : World} (x : NbI q w h cs v m bs W) (hg : W.grownBy W' v.ownBlock) (ho : W'.ownsRow (w.heap.size + 1) 5 1 v' m' (bcells bs'))
    (hat : v'.ownBlock = v.ownBlock ∨ v'.ownBlock = some W.heap.size) : NbI q w h cs v' m' bs' W' := by
  have hhl := (Array.getElem?_eq_some_iff.1 x.hh).1
  refine ⟨(hg.block _ x.nb.lt fun e => by have := (x.own.lt _ e.symm).1; omega).trans x.nb, (hg.block h hhl fun e => x.ne h e.symm rfl).trans x.hh, ho, fun b hb => ?_, below_ownG x.bl x.own (by omega) hg⟩
  rcases hat with e | e
  · exact x.ne b (by rw [← e]; exact hb)
  · rw [hb] at e; injection e with e; omega
/-- of what bytes can be laid -/
structure Small (n : Nd) : Prop where
  k : 0 ≤ n.kind ∧ n.kind < 256
  ek : n.ek.length ≤ 1990
  vk : n.vk.length ≤ 1990
  nm : n.name.length ≤ 1990
  ab : n.above.length ≤ 1990
  un : n.un.length ≤ 100
  each : ∀ x ∈ n.un, 0 ≤ x ∧ x < 65536
def part4 (n : Nd) : Nat → List Nat
  | 0 => n.ek
  | 1 => n.vk
  | 2 => n.name
  | _ => n.above
def upTo4 (n : Nd) : Nat → List Nat
  | 0 => be 1 n.kind.toNat
  | k + 1 => upTo4 n k ++ txB (part4 n k)
theorem unB_take (un : List Int) (k : Nat) (h : k < un.length) : unB (un.take (k + 1)) = unB (un.take k) ++ be 2 (gi un k).toNat := by
  unfold unB
  rw [gi_take un k h, List.map_append, List.flatten_append]
  simp
theorem nodeB_eq (n : Nd) : upTo4 n 4 ++ be 2 n.un.length ++ unB n.un = nodeB n := by
  simp [upTo4, part4, nodeB, List.append_assoc]
theorem NdIs.part {S : Nat → Prop} {w : World} {q : NdQ} {n : Nd} (h : NdIs S w q n) (hs : Small n) (j : Nat) (hj : j < 4) : ∃ A m c, #[Value.slice q.A1 q.n1 q.c1, .slice q.A2 q.n2 q.c2, .slice q.A3 q.n3 q.c3, .slice q.A4 q.n4 q.c4][j]? = some (.slice A m c) ∧ Txt S w A m c (part4 n j) ∧ m ≤ 1990 := by
  have e : j = 0 ∨ j = 1 ∨ j = 2 ∨ j = 3 := by omega
  rcases e with rfl | rfl | rfl | rfl
  · exact ⟨_, _, _, rfl, h.ek, by rw [← h.ek.len]; exact hs.ek⟩
  · exact ⟨_, _, _, rfl, h.vk, by rw [← h.vk.len]; exact hs.vk⟩
  · exact ⟨_, _, _, rfl, h.nm, by rw [← h.nm.len]; exact hs.nm⟩
  · exact ⟨_, _, _, rfl, h.ab, by rw [← h.ab.len]; exact hs.ab⟩
theorem own_downG {w : World} {base base' e sz n : Nat} {v : Value} {xs : List Value} (h : w.ownsRow base e sz v n xs) (hb : base' ≤ base) : w.ownsRow base' e sz v n xs := by
  refine ⟨h.1, ?_⟩
  rcases h.2 with h2 | ⟨g, c, cur, he, hbase, rest⟩
  · exact .inl h2
  · exact .inr ⟨g, c, cur, he, by omega, rest⟩

set_option maxHeartbeats 8000000 in
set_option maxRecDepth 100000 in
theorem nodeBytes_own (q : NdQ) (n : Nd) (w : World) (hT : Wr.Tables w) (hq : NdIs Any w q n) (hs : Small n) :
    Calls Tryz.prog 45 #[.agg q.cs] w fun e w' => ∃ C m c, e = .returned (.slice C m c) ∧ w'.ownsRow (w.heap.size + 1) 5 1 (.slice C m c) m (bcells (nodeB n)) ∧ Below w.heap.size w w' := by
  have HT := Lib.hid hT; have HQ := Lib.hid hq; have HS := Lib.hid hs
  have hG := hT.lt
  have hpart := hq.part hs
  have HPT := Lib.hid hpart
  have hu5 := hq.un.len
  have hn5 : q.n5 ≤ 100 := by rw [← hu5]; exact hs.un
  have HU5 := Lib.hid hu5
  obtain ⟨kk, hkk⟩ : ∃ kk : Nat, n.kind = kk := Int.eq_ofNat_of_zero_le hs.k.1
  have hk256 : kk < 256 := by have := hs.k.2; omega
  have hqk : q.k = kk := by rw [hq.k, hkk]
  have HKK := Lib.hid (show n.kind.toNat = kk by rw [hkk]; rfl)
  have hnb := NdB.new (k := q.k) (A1 := q.A1) (n1 := q.n1) (c1 := q.c1) (A2 := q.A2) (n2 := q.n2) (c2 := q.c2) (A3 := q.A3) (n3 := q.n3) (c3 := q.c3) (A4 := q.A4) (n4 := q.n4) (c4 := q.c4) (A5 := q.A5) (n5 := q.n5) (c5 := q.c5) w
  have hb0 := below_one w (.cells q.cs 28)
  have hs0 : (w.alloc (.cells q.cs 28)).heap.size = w.heap.size + 1 := by simp
  have HEND := Lib.hid (nodeB_eq n)
  clear hT hq hs hkk hpart hu5
  obtain ⟨k, A1, n1, c1, A2, n2, c2, A3, n3, c3, A4, n4, c4, A5, n5, c5⟩ := q
  dsimp only [NdQ.cs] at *
  subst hqk
  go_enter Tryz.func45, Tryz.ntmps45
  go_wp2_with fail
  obtain ⟨w0, hw0⟩ : ∃ w0, w.alloc (.cells (ndc (kk : Int) A1 n1 c1 A2 n2 c2 A3 n3 c3 A4 n4 c4 A5 n5 c5) 28) = w0 := ⟨_, rfl⟩
  simp only [hw0] at hnb hb0 hs0 ⊢
  clear hw0
  have HNB := Lib.hid hnb; have HB0 := Lib.hid hb0
  clear hnb hb0
  refine (number_own kk 1 w0 (.inl rfl) (by omega) (by omega)).mono ?_
  rintro e' w1 ⟨rfl, ho1, hb1⟩
  have hz1 := hb1.size
  have ho1' := own_downG ho1 (show w.heap.size + 1 ≤ w0.heap.size by omega)
  have HO1 := Lib.hid ho1'; have HLT1 := Lib.hid (fun b hb => (ho1.lt b hb).2)
  have HNB1 := Lib.hid (HNB.out.below hb1 (by omega)); have HB1 := Lib.hid (HB0.out.trans (hb1.mono HB0.out.size))
  obtain ⟨t0, t1, t2, t3, t4, t5⟩ := HNB1.out.cs
  clear ho1 ho1' hb1 HNB HB0
  go_wp2_with fail
  clear t0 t1 t2 t3 t4 t5
  have HI0 : Hid (NbI ⟨kk, A1, n1, c1, A2, n2, c2, A3, n3, c3, A4, n4, c4, A5, n5, c5⟩ w w1.heap.size #[.slice A1 n1 c1, .slice A2 n2 c2, .slice A3 n3 c3, .slice A4 n4 c4] (.slice (some ⟨w0.heap.size, 0, none⟩) 1 1) 1 (upTo4 n 0) (w1.alloc (.cells #[.slice A1 n1 c1, .slice A2 n2 c2, .slice A3 n3 c3, .slice A4 n4 c4] 25))) := Lib.hid
    ⟨HNB1.out.below (below_one w1 _) HNB1.out.lt, heap_alloc_last w1 _, by unfold upTo4; rw [HKK.out]; exact HO1.out.alloc _, fun b hb => by have := HLT1.out b hb; omega, HB1.out.alloc HB1.out.size _⟩
  generalize w1.alloc (.cells #[.slice A1 n1 c1, .slice A2 n2 c2, .slice A3 n3 c3, .slice A4 n4 c4] 25) = w2 at *
  obtain ⟨h, hh⟩ : ∃ h, w1.heap.size = h := ⟨_, rfl⟩
  rw [hh, hs0] at HI0
  simp only [hh]
  clear HNB1 HB1 HO1 HLT1 hh hz1
  go_loopw [3, 23] (fun v i W => ∃ (j m : Nat) (C : Option Addr) (cc : Nat), j ≤ 4 ∧ i = .int .i64 j ∧ v = .slice C m cc ∧ m ≤ 1 + 2000 * j ∧ Hid (NbI ⟨kk, A1, n1, c1, A2, n2, c2, A3, n3, c3, A4, n4, c4, A5, n5, c5⟩ w h #[.slice A1 n1 c1, .slice A2 n2 c2, .slice A3 n3 c3, .slice A4 n4 c4] (.slice C m cc) m (upTo4 n j) W)) (fun v i _ => 4 - (intOf i).toNat)
  case atStart => exact ⟨0, 1, _, 1, by omega, rfl, rfl, by omega, HI0⟩
  case round =>
    clear HI0
    obtain ⟨j, m, C, cc, hj, rfl, rfl, hm, HI⟩ := hrel
    by_cases hj4 : j < 4
    · have yj : (j : Int) < 4 := by omega
      obtain ⟨Aj, mj, cj, hcell, hTx, hmj⟩ := HPT.out j hj4
      have hc : wr.cell? ⟨h, j, none⟩ = some (.slice Aj mj cj) := by rw [cell_of_row _ _ j _ _ _ HI.out.hh]; exact hcell
      have HTX := Lib.hid hTx
      have hlen := hTx.len
      have HR : Hid (putT (part4 n j) = (txB (part4 n j), 0)) := Lib.hid (by unfold putT; rw [hlen, if_neg (by omega)])
      have HLEN := Lib.hid (show (txB (part4 n j)).length ≤ 1995 by rw [txB_len, hlen]; have := (szB_pos mj).2; omega)
      have HUP : Hid (upTo4 n (j + 1) = upTo4 n j ++ txB (part4 n j)) := Lib.hid rfl
      obtain ⟨tx, htx⟩ : ∃ tx, txB (part4 n j) = tx := ⟨_, rfl⟩
      rw [htx] at HR HLEN HUP
      clear hcell hTx hlen htx
      go_wp2_with (first
        | (go_at_call 69; refine (text_any Aj (part4 n j) mj cj wr (HT.out.below HI.out.bl hG) (HTX.out.below HI.out.bl) _ HR).mono ?_; rintro e' w3 ⟨AX, m3, cX, rfl, hX3, hB3⟩; have hm3 := hX3.len; have HX3 := Lib.hid hX3.any; have HI3 := Lib.hid (HI.out.below hB3); clear hX3 hB3)
        | (at_builtin; refine wpList_append_txt rfl (.tmp 32) (.tmp 33) rfl (w.heap.size + 1) m m3 cX _ (upTo4 n j) tx AX Any rfl rfl HI3.out.own HX3.out (by have := HLEN.out; (try dsimp only at hm3); omega) (by have := HI3.out.nb.lt; omega) ?_)
        | go_in)
      intro v' w4 hown hgrow hat
      obtain ⟨C', c', rfl⟩ := own_sliceG hown
      have HI4 : Hid (NbI ⟨kk, A1, n1, c1, A2, n2, c2, A3, n3, c3, A4, n4, c4, A5, n5, c5⟩ w h #[.slice A1 n1 c1, .slice A2 n2 c2, .slice A3 n3 c3, .slice A4 n4 c4] (.slice C' (m + m3) c') (m + m3) (upTo4 n (j + 1)) w4) := Lib.hid (HI3.out.grown hgrow (by rw [HUP.out]; exact hown) hat)
      clear hown hgrow hat
      go_wp2
      go_roundw
      case rel => exact ⟨j + 1, m + m3, C', c', by omega, by go_num, rfl, by have := HLEN.out; (try dsimp only at hm3); omega, HI4⟩
      case measure => simp [intOf]; omega
    · obtain rfl : j = 4 := by omega
      obtain ⟨t0, t1, t2, t3, t4, t5⟩ := HI.out.nb.cs
      have HN2 := Lib.hid (number_own n5 2 wr (.inr (.inl rfl)) (by omega) (by omega))
      have hwz := HI.out.nb.lt
      have hbz := HI.out.bl.size
      clear t0 t1 t2 t3 t4
      go_wp2_with (first
        | (go_at_call 44; refine HN2.out.mono ?_; rintro e' w3 ⟨rfl, ho3, hB3⟩; have HX3 := Lib.hid (Txt.of_own ho3 (be_lt _ _)); have HI3 := Lib.hid (HI.out.below hB3); clear ho3 hB3)
        | (at_builtin; (obtain ⟨AX, cX, e3, hX3⟩ := HX3.out); (injection e3 with ea eb ec); subst ea ec; refine wpList_append_txt rfl (.tmp 36) (.tmp 40) rfl (w.heap.size + 1) m 2 2 _ (upTo4 n 4) (be 2 n5) (some ⟨wr.heap.size, 0, none⟩) Any rfl rfl HI3.out.own hX3.any (by omega) (by have := HI3.out.nb.lt; omega) ?_)
        | go_in)
      intro v' w4 hown hgrow hat
      obtain ⟨C', c', rfl⟩ := own_sliceG hown
      have HI4 : Hid (NbI ⟨kk, A1, n1, c1, A2, n2, c2, A3, n3, c3, A4, n4, c4, A5, n5, c5⟩ w h #[.slice A1 n1 c1, .slice A2 n2 c2, .slice A3 n3 c3, .slice A4 n4 c4] (.slice C' (m + 2) c') (m + 2) (upTo4 n 4 ++ be 2 n5 ++ unB (n.un.take 0)) w4) := Lib.hid (HI3.out.grown hgrow (by rw [show unB (n.un.take 0) = [] from rfl, List.append_nil]; exact hown) hat)
      clear hown hgrow hat HX3 HI3 HI
      obtain ⟨t0, t1, t2, t3, t4, t5⟩ := HI4.out.nb.cs
      clear t0 t1 t2 t3 t4
      have hm9 : m + 2 ≤ 8003 := by omega
      go_wp2
      clear t5
      go_loopw [3, 45] (fun v i W => ∃ (k m : Nat) (C : Option Addr) (cc : Nat), k ≤ n5 ∧ i = .int .i64 k ∧ v = .slice C m cc ∧ m ≤ 8003 + 2 * k ∧ Hid (NbI ⟨kk, A1, n1, c1, A2, n2, c2, A3, n3, c3, A4, n4, c4, A5, n5, c5⟩ w h #[.slice A1 n1 c1, .slice A2 n2 c2, .slice A3 n3 c3, .slice A4 n4 c4] (.slice C m cc) m (upTo4 n 4 ++ be 2 n5 ++ unB (n.un.take k)) W)) (fun v i _ => n5 - (intOf i).toNat)
      case atStart => exact ⟨0, m + 2, C', c', by omega, rfl, rfl, by omega, HI4⟩
      case round =>
        clear HI4 hm9
        obtain ⟨k, m, C, cc, hk, rfl, rfl, hm, HI⟩ := hrel
        by_cases hkn : k < n5
        · have yk : (k : Int) < (n5 : Int) := by omega
          obtain ⟨ad, rfl⟩ := HQ.out.un.some (by show 0 < n5; omega)
          have hc := (HQ.out.un.below HI.out.bl).cell k hkn
          obtain ⟨hx0, hx1⟩ := HS.out.each (gi n.un k) (gi_mem (by rw [HU5.out]; exact hkn))
          have HUN := Lib.hid (unB_take n.un k (by rw [HU5.out]; exact hkn))
          obtain ⟨x, hx⟩ : ∃ x : Nat, gi n.un k = x := Int.eq_ofNat_of_zero_le hx0
          rw [hx] at hc HUN hx1
          have hc' : wr.cell? (ad.add k) = some (.int .i64 (x : Int)) := hc
          have HN3 := Lib.hid (number_own x 2 wr (.inr (.inl rfl)) (by omega) (by omega))
          rw [Int.toNat_natCast] at HUN
          have hwz := HI.out.nb.lt
          clear hx hx0 hx1 hc
          go_wp2_with (first
            | (go_at_call 44; refine HN3.out.mono ?_; rintro e' w3 ⟨rfl, ho3, hB3⟩; have HX3 := Lib.hid (Txt.of_own ho3 (be_lt _ _)); have HI3 := Lib.hid (HI.out.below hB3); clear ho3 hB3)
            | (at_builtin; (obtain ⟨AX, cX, e3, hX3⟩ := HX3.out); (injection e3 with ea eb ec); subst ea ec; refine wpList_append_txt rfl (.tmp 49) (.tmp 51) rfl (w.heap.size + 1) m 2 2 _ (upTo4 n 4 ++ be 2 n5 ++ unB (n.un.take k)) (be 2 x) (some ⟨wr.heap.size, 0, none⟩) Any rfl rfl HI3.out.own hX3.any (by omega) (by have := HI3.out.nb.lt; omega) ?_)
            | go_in)
          intro v' w4 hown hgrow hat
          obtain ⟨C', c', rfl⟩ := own_sliceG hown
          have HI4 : Hid (NbI ⟨kk, A1, n1, c1, A2, n2, c2, A3, n3, c3, A4, n4, c4, some ad, n5, c5⟩ w h #[.slice A1 n1 c1, .slice A2 n2 c2, .slice A3 n3 c3, .slice A4 n4 c4] (.slice C' (m + 2) c') (m + 2) (upTo4 n 4 ++ be 2 n5 ++ unB (n.un.take (k + 1))) w4) := Lib.hid (HI3.out.grown hgrow (by rw [HUN.out]; simpa only [List.append_assoc] using hown) hat)
          clear hown hgrow hat
          go_wp2
          go_roundw
          case rel => exact ⟨k + 1, m + 2, C', c', by omega, by go_num, rfl, by omega, HI4⟩
          case measure => simp [intOf]; omega
        · obtain rfl : k = n5 := by omega
          go_wp2
          go_ret
          refine ⟨C, m, cc, rfl, ?_, HI.out.bl⟩
          have := HI.out.own
          rw [List.take_of_length_le (by rw [HU5.out]; omega)] at this
          rw [← HEND.out, HU5.out]
          exact this
end Go.Proofs.YtakglldffpnlaaaGreatDoor.Rt
