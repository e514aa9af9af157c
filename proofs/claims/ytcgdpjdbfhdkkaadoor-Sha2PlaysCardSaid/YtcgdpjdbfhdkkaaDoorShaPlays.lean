/- Walks: Sha2Plays. -/
import Derived.Test.YtcgdpjdbfhdkkaaDoorShaSums
namespace Go.Proofs.YtcgdpjdbfhdkkaaDoor.Sha
open Go.RowKit
attribute [local go_sem ↓] Go.wp_at_zero Go.wp_at_succ

/-- append onto a row of one's own, nil let in, of bytes that came in, nil let in -/
theorem wpList_append_gen {ops : Array Oper} {rest : List Oper} {o : Oper} {a : Act} {w : World} {Q : Exit → Act → World → Prop} (hgd : o.guard = none) (s x : Operand)
    (ho : o.op = .call { callee := .builtin .append, args := #[s, x], argTypes := #[22, 22] }) (base n m c B : Nat) (v : Value) (xs ys : List Nat) (A : Option Addr)
    (hs : a.eval s = v) (hx : a.eval x = .slice A m c)
    (hown : w.ownsRow base 5 1 v n (bcells xs)) (hR : Rd w B A ys) (hm : ys.length = m) (hc : A = none → c = 0) (hbd : n + m ≤ 1000000) (hbase : base ≤ w.heap.size)
    (k : ∀ v' w', w'.ownsRow base 5 1 v' (n + m) (bcells (xs ++ ys)) → w.grownBy w' v.ownBlock → wpList Tryd.prog ops Q rest (a.put o.dst v') w') :
    wpList Tryd.prog ops Q (o :: rest) a w := by
  obtain ⟨i, hi, hz, hsz, hby⟩ := byteInfo
  have key : ∃ v' w', (Builtin.append_ #[22, 22] o.type #[v, .slice A m c]).run Tryd.prog w = .ok v' w' ∧ w'.ownsRow base 5 1 v' (n + m) (bcells (xs ++ ys)) ∧ w.grownBy w' v.ownBlock := by
    cases A with
    | none =>
      have h0 : m = 0 := by
        rcases Nat.eq_zero_or_pos m with h | h
        · exact h
        · obtain ⟨ad, e, _⟩ := hR.2 (by omega)
          cases e
      have hy : ys = [] := List.eq_nil_of_length_eq_zero (by omega)
      have hc0 := hc rfl
      subst h0 hy hc0
      exact ⟨v, w, run_append_owned_none (P := Tryd.prog) (w := w) base 22 o.type 5 i 1 Tryd.underlying22 hi _ n (bcells xs) hown, by simpa using hown, World.grownBy.refl _ _⟩
    | some ad =>
      obtain ⟨v', w', hrun, h1, h2, _, _⟩ := run_append_own_at (P := Tryd.prog) w base 22 o.type 5 i (.int .u8 0) 1 1 Tryd.underlying22 hi hz hsz hby rfl (by omega) _ n (bcells xs) hown ad m c (bcells ys) (by rw [bcells_len]; omega)
        (news_of_rd hR) (bcells_one ys) (by unfold maxLen; omega) (by omega) hbase
      rw [← bcells_append] at h1
      exact ⟨v', w', hrun, h1, h2⟩
  obtain ⟨v', w', hrun, h1, h2⟩ := key
  refine wpList_plain hgd fun K hK => ?_
  unfold Oper.wp execOp
  simp only [ho, resolve, invoke, builtin, Sem.run_bind, Sem.run_pure, Result.andThen_ok, List.map_toArray, List.map_cons, List.map_nil, hs, hx, hrun]
  exact hK _ _ (k v' w' h1 h2)
/-- what owns a row is a slice, and is read as one -/
theorem own_slice {w : World} {base n : Nat} {v : Value} {xs : List Nat} (h : w.ownsRow base 5 1 v n (bcells xs)) (hx : ∀ j, gt xs j < 256) :
    ∃ (A : Option Addr) (c : Nat), v = .slice A n c ∧ (A = none → c = 0) ∧ n ≤ c ∧ c ≤ 9223372036854775807 ∧ Rd w w.heap.size A xs ∧ xs.length = n ∧ (∀ g, Value.ownBlock v = some g → base ≤ g ∧ g < w.heap.size) := by
  have hl : xs.length = n := by have := h.1; rw [bcells_len] at this; omega
  have h' := h
  rcases h.2 with ⟨e, h0⟩ | ⟨g, c, cur, e, hb, hc, h1, h2, _⟩
  · subst e h0
    have hx0 : xs = [] := List.eq_nil_of_length_eq_zero hl
    subst hx0
    exact ⟨none, 0, rfl, fun _ => rfl, by omega, by omega, Rd.nil _ _ _, rfl, fun g e => by cases e⟩
  · subst e
    refine ⟨some ⟨g, 0, none⟩, c, rfl, fun e => (by cases e), h1, h2, rd_of_own h' hx (Nat.le_refl _), hl, fun g' e => ?_⟩
    have e' : g = g' := Option.some.inj e
    subst e'
    exact h'.lt g rfl
theorem hs_own {w w' : World} {x base n : Nat} {s : Hs} {v : Value} {xs : List Value} (h : HsAt w x s) (hown : w.ownsRow base 5 1 v n xs) (hb : x < base) (hg : w.grownBy w' v.ownBlock) : HsAt w' x s := row_own h hown hb hg
theorem own_gen {w w' : World} {base n : Nat} {v : Value} {xs : List Value} (h : w.ownsRow base 5 1 v n xs) (hb : Below w.heap.size w w') : w'.ownsRow base 5 1 v n xs := by
  refine h.kept (row := none) ⟨hb.os, hb.tape, hb.output, hb.size, fun i hi _ => hb.block i hi⟩ ?_
  cases hq : v.ownBlock with
  | none => exact .inl rfl
  | some g => exact .inr (by simp)
theorem own_apart {w w' : World} {base n g : Nat} {v : Value} {xs : List Value} (h : w.ownsRow base 5 1 v n xs) (hg : w.grownBy w' (some g)) (hne : ∀ g', v.ownBlock = some g' → g' ≠ g) : w'.ownsRow base 5 1 v n xs := by
  refine h.kept hg ?_
  cases hq : v.ownBlock with
  | none => exact .inl rfl
  | some g' => exact .inr (by intro e; exact hne g' hq (Option.some.inj e))
/-- texts that came in -/
def IsRows (w : World) (a : Option Addr) (len cap : Nat) : Prop :=
  (a = none ∧ len = 0 ∧ cap = 0) ∨ ∃ (x : Addr) (A : Nat → Option Addr) (L C : Nat → Nat) (Z : Nat → List Int), a = some x ∧ len ≤ cap ∧ cap ≤ maxLen ∧ ∀ r, r < cap → w.cell? (x.add r) = some (.slice (A r) (L r) (C r)) ∧ IsRow .u8 w (A r) (L r) (C r) (Z r)

set_option maxHeartbeats 8000000 in
set_option maxRecDepth 100000 in
theorem plays_walk (a0 : Option Addr) (n c : Nat) (w : World) (hT : Tables w) (hI : IsRows w a0 n c) (hm : n ≤ 20) :
    Calls Tryd.prog 4 #[.slice a0 n c] w fun e w' => e = .returned (.bool true) ∧ Below w.heap.size w w' := by
  have h2 := hT.lt
  have HT := Lib.hid hT; have HI := Lib.hid hI; clear hT hI
  have hgt : ¬ (20 < (n : Int)) := by omega
  go_enter Tryd.func4, Tryd.ntmps4
  go_wp2_with fail
  refine (head_any _ HT.out).mono ?_
  rintro e' w1 ⟨rfl, hB1⟩
  have HB1 := Lib.hid hB1; clear hB1
  go_wp2_with fail
  refine (new_any _ (HT.out.below HB1.out h2)).mono ?_
  rintro e' w2 ⟨rfl, hS, hB, hz⟩
  have HX2 := Lib.hid hS; have HB2 := Lib.hid (HB1.out.trans (hB.mono HB1.out.size)); clear hS hB hz
  have hwx := HB1.out.size
  generalize w1.heap.size = x at *
  go_wp2
  go_loopw [5, 6] (fun v i W => ∃ (k N cv : Nat) (Av : Option Addr) (al : List Nat), k ≤ n ∧ i = .int .i64 k ∧ v = .slice Av N cv ∧ N ≤ 1000 * k ∧ Hid (W.ownsRow (x + 1) 5 1 (.slice Av N cv) N (bcells al)) ∧ Hid (∀ j, gt al j < 256) ∧ Hid (HsAt W x (takeAll start al)) ∧ Hid (Below w.heap.size w W)) (fun _ i _ => n - (intOf i).toNat)
  case atStart => exact ⟨0, 0, 0, none, [], by omega, rfl, rfl, by omega, Lib.hid ⟨rfl, .inl ⟨rfl, rfl⟩⟩, Lib.hid (fun j => by simp [gt]), HX2, HB2⟩
  case round =>
    obtain ⟨k, N, cv, Av, al, hk, rfl, rfl, hNk, HV3, HAL, HX3, HB3⟩ := hrel
    obtain ⟨A3, c3, hv3, hcn3, hnc3, hcm3, hrd3, hlen3, hblk3⟩ := own_slice HV3.out HAL.out
    injection hv3 with hv3a hv3b hv3c
    subst hv3a hv3c
    clear hv3b
    have HRD3 := Lib.hid hrd3; have HLN3 := Lib.hid (fun _ : Unit => hlen3); have HBK3 := Lib.hid hblk3; have HCN3 := Lib.hid hcn3; clear hrd3 hlen3 hblk3 hcn3
    have hsn : (takeAll start al).n = N := by rw [takeAll_n, HLN3.out ()]; show 0 + N = N; omega
    have HGD := Lib.hid (good_takeAll al good_start HAL.out)
    have hx3 : x < wr.heap.size := HX3.out.lt
    by_cases hkn : k < n
    · rcases HI.out with ⟨_, h0, _⟩ | ⟨ad, A, L, C, Z, rfl, hnc, hcm, hrows⟩
      · omega
      · obtain ⟨hcell, hrow⟩ := hrows k (by omega)
        obtain ⟨r0, n0, m0, q0, x0⟩ := rd_of_row hrow
        have hadb : (ad.add k).block < w.heap.size := block_lt_of_cell hcell
        have c0 : wr.cell? (ad.add k) = some (.slice (A k) (L k) (C k)) := by rw [HB3.out.cell hadb]; exact hcell
        generalize hbs : bytesOf (Z k) (L k) = bs at *
        have HR0 := Lib.hid r0; have HL0 := Lib.hid (fun _ : Unit => n0); have HC0 := Lib.hid x0
        have HCELL := Lib.hid (show w.cell? (ad.add k) = _ from hcell)
        clear r0 n0 x0 hbs hrow hrows hcell HI
        generalize A k = A0 at *
        generalize L k = m at *
        generalize C k = cm at *
        have yk : (k : Int) < (n : Int) := by omega
        by_cases hbig : 1000 < m
        · go_wp2
          go_ret
          exact ⟨rfl, HB3.out⟩
        · have hbig2 : ¬ (1000 < (m : Int)) := by omega
          have HNIL : Hid ((wr.alloc (.cells #[] 5)).ownsRow wr.heap.size 5 1 (.slice (some ⟨wr.heap.size, 0, none⟩) 0 0) 0 (bcells [])) := Lib.hid (World.ownsRow_made wr #[] 0 (Nat.le_refl _) (by unfold maxLen; omega) rfl)
          have HBa := Lib.hid (HB3.out.alloc HB3.out.size (.cells #[] 5))
          have HXa := Lib.hid (HX3.out.alloc (.cells #[] 5))
          have HVa := Lib.hid (own_gen HV3.out ((Below.refl _ _).alloc (Nat.le_refl _) (.cells #[] 5)))
          have hza : (wr.alloc (.cells #[] 5)).heap.size = wr.heap.size + 1 := by simp
          have c1 : (wr.alloc (.cells #[] 5)).cell? (ad.add k) = some (.slice A0 m cm) := by rw [HBa.out.cell hadb]; exact HCELL.out
          go_wp2_with (at_builtin; refine wpList_append_rd rfl (.tmp 36) (.tmp 40) rfl wr.heap.size wr.heap.size 0 0 m cm w.heap.size [] bs A0 rfl rfl HNIL.out (HR0.out.below HBa.out) (HL0.out ()) HC0.out (by omega) (by rw [hza]; omega) ?_)
          intro g1 cap1 w4 hown4 hgrow4 hat4
          try rw [hza] at hat4
          have hg1 : wr.heap.size ≤ g1 := by rcases hat4 with rfl | rfl <;> omega
          have HO4 := Lib.hid hown4; have HB4 := Lib.hid (below_of_only HBa.out hgrow4 HB3.out.size)
          have HX4 := Lib.hid (HXa.out.grown hgrow4 (by intro e; injection e with e; omega))
          have HV4 := Lib.hid (own_apart HVa.out hgrow4 (fun g' e => by have := (HBK3.out g' e).2; omega))
          have hcp := own_cap hown4
          unfold maxLen at hcp
          clear hown4 hgrow4 hat4 HNIL HBa HXa HVa c1 c0
          have HST : Hid (Unit → takeAll (takeAll start al) bs = takeAll start (al ++ bs)) := Lib.hid fun _ => by rw [takeAll_append]
          generalize takeAll start al = s1 at *
          obtain ⟨s2, HS2e⟩ : ∃ s2, Hid (Unit → takeAll start (al ++ bs) = s2) := ⟨_, Lib.hid fun _ => rfl⟩
          have HG2 : Hid (Good s2) := Lib.hid (by rw [← HS2e.out (), ← HST.out ()]; exact good_takeAll bs HGD.out HR0.out.1)
          have hsn2 : s2.n = N + m := by rw [← HS2e.out (), ← HST.out (), takeAll_n, HL0.out (), hsn]
          go_wp2_with fail
          refine (write_any x s1 (some ⟨g1, 0, none⟩) bs m cap1 _ HX4.out HGD.out (HT.out.below HB4.out h2) (by omega) (rn_of_own HO4.out HR0.out.1 (by omega)) (HL0.out ()) hcp.1 hcp.2 (by omega)).mono ?_
          rintro e' w5 ⟨rfl, hS5, hG5⟩
          rw [HST.out (), HS2e.out ()] at hS5
          have HX5 := Lib.hid hS5; have HB5 := Lib.hid (below_of_only HB4.out hG5 hwx)
          have HBY5 := Lib.hid (bytes_of_own (HO4.out.kept hG5 (.inr (by intro e; have e' : g1 = x := Option.some.inj e; omega))))
          have HV5 := Lib.hid (own_apart HV4.out hG5 (fun g' e => by have := (HBK3.out g' e).1; omega))
          clear hS5 hG5 HO4 HX4 HV4
          go_wp2
          go_loopw [8] (fun i W => ∃ q : Nat, q ≤ m ∧ i = .int .i64 q ∧ Hid (Bytes W g1 m) ∧ Hid (HsAt W x s2) ∧ Hid (W.ownsRow (x + 1) 5 1 (.slice Av N cv) N (bcells al)) ∧ Hid (Below w.heap.size w W)) (fun i _ => m - (intOf i).toNat)
          case atStart => exact ⟨0, by omega, rfl, HBY5, HX5, HV5, HB5⟩
          case round =>
            obtain ⟨q, hq, rfl, HBY6, HX6, HV6, HB6⟩ := hrel
            by_cases hqm : q < m
            · obtain ⟨z, c2⟩ := HBY6.out.cell q hqm
              have f2 := HBY6.out.frozen q
              have yq : (q : Int) < (m : Int) := by omega
              go_wp2
              go_roundw
              case rel =>
                exact ⟨q + 1, by omega, by go_num, Lib.hid (HBY6.out.set q _), Lib.hid (HX6.out.far (by show x ≠ g1; omega) _), Lib.hid (own_apart HV6.out (only_set (World.grownBy.refl wr (some g1)) (p := ⟨g1, q, none⟩) (.inl rfl) _) (fun g' e => by have := (HBK3.out g' e).2; omega)), Lib.hid (HB6.out.setCell (by show w.heap.size ≤ g1; omega) _)⟩
              case measure => simp [intOf]; omega
            · obtain rfl : q = m := by omega
              have c2 : wr.cell? (ad.add k) = some (.slice A0 q cm) := by rw [HB6.out.cell hadb]; exact HCELL.out
              have hx6 : x < wr.heap.size := HX6.out.lt
              have hdq : decide ((q : Int) < (q : Int)) = false := decide_eq_false (by omega)
              go_wp2_with (at_builtin; refine wpList_append_gen rfl (.tmp 57) (.tmp 61) rfl (x + 1) N q cm w.heap.size (.slice Av N cv) al bs A0 rfl rfl HV6.out (HR0.out.below HB6.out) (HL0.out ()) HC0.out (by omega) (by omega) ?_)
              intro v7 w7 hown7 hgrow7
              have HX7 := Lib.hid (hs_own HX6.out HV6.out (by omega) hgrow7)
              have HB7 := Lib.hid (below_own HB6.out HV6.out (by omega) hgrow7 HB6.out.size)
              have HAL7 := Lib.hid (gt_append_lt HAL.out HR0.out.1)
              obtain ⟨A7, c7, hv7, hcn7, hnc7, hcm7, hrd7, hlen7, hblk7⟩ := own_slice hown7 HAL7.out
              subst hv7
              have HV7 := Lib.hid hown7; have HRD7 := Lib.hid hrd7; have HLN7 := Lib.hid (fun _ : Unit => hlen7); have HCN7 := Lib.hid hcn7; clear hown7 hgrow7 hrd7 hlen7 hblk7 hcn7 c2
              have HSU7 : Hid (Unit → sum (al ++ bs) = sumOf s2) := Lib.hid fun _ => by rw [← HS2e.out ()]; rfl
              generalize hab : al ++ bs = ab at *
              clear hab
              go_wp2
              refine region_calm ?_
              refine wp_region_any (by kernel_rfl) ?_
              change wpAny _ _ _ _ _ _ _ (World.drew _)
              replace HX7 := Lib.hid HX7.out.drew
              replace HB7 := Lib.hid HB7.out.drew
              replace HV7 := Lib.hid HV7.out.drew
              replace HRD7 := Lib.hid (show Rd w7.drew w7.drew.heap.size A7 ab from HRD7.out.keep fun _ _ => rfl)
              generalize w7.drew = wd at *
              refine wpAny_take (i := 0) (v := ?v0p) rfl (by kernel_rfl) (by kernel_rfl) (by kernel_rfl) (fun _ _ _ h => h) (Or.inl ⟨by rfl, ?y0p⟩) ?r0p
              case y0p => (intro w; go_simp; try with_reducible rfl)
              simp only [List.getElem_toArray, List.getElem_cons_succ, List.getElem_cons_zero, Act.put, List.setIfInBounds_toArray, List.set_cons_zero, List.set_cons_succ]
              refine wpAny_take (i := 3) (v := ?v3p) rfl (by kernel_rfl) (by kernel_rfl) (by kernel_rfl) (fun _ _ _ h => h) (Or.inl ⟨by rfl, ?y3p⟩) ?r3p
              case y3p => (intro w; go_simp; try with_reducible rfl)
              simp only [List.getElem_toArray, List.getElem_cons_succ, List.getElem_cons_zero, Act.put, List.setIfInBounds_toArray, List.set_cons_zero, List.set_cons_succ]
              refine wpAny_ready (rs := [1]) (by kernel_rfl) (by simp) ?_
              refine AllReady.cons rfl (fun K hK => ?_) AllReady.nil
              simp only [List.getElem_toArray, List.getElem_cons_succ, List.getElem_cons_zero]
              go_simp
              refine (hsum_any x s2 _ HX7.out HG2.out (HT.out.below HB7.out h2) (by omega)).mono ?_
              rintro e' wa ⟨h1, k1, rfl, hown, hB⟩
              have HOa := Lib.hid hown; have HXa := Lib.hid (HX7.out.below hB HX7.out.lt); have HBa := Lib.hid (HB7.out.trans (hB.mono HB7.out.size)); have HVa := Lib.hid (own_gen HV7.out hB); have HRDa := Lib.hid ((HRD7.out.below hB).more hB.size)
              have hsa := conv_own hown
              clear hown hB
              refine hK _ _ ?_
              clear hK K
              try simp only [List.getElem_toArray, List.getElem_cons_succ, List.getElem_cons_zero, Act.put, List.setIfInBounds_toArray, List.set_cons_zero, List.set_cons_succ]
              refine wpAny_of_held (S := fun w' => (convert 22 9 (.slice (some ⟨h1, 0, none⟩) 32 k1)).run Tryd.prog w' = .ok (.string (txt (sumOf s2))) w') _ _ _ _ ?_
              refine wpAnyH_take (i := 2) (v := ?v2p) rfl (by kernel_rfl) (by kernel_rfl) (by kernel_rfl) (fun _ _ _ h => h) (Or.inl ⟨by rfl, ?y2p⟩) hsa ?r2p
              case y2p => (intro w hSw; (try dsimp only at hSw); go_simp; try with_reducible rfl)
              simp only [List.getElem_toArray, List.getElem_cons_succ, List.getElem_cons_zero, Act.put, List.setIfInBounds_toArray, List.set_cons_zero, List.set_cons_succ]
              refine wpAnyH_ready (rs := [4]) (by kernel_rfl) (by simp) ?_
              refine AllReadyH.cons rfl (fun K hK => ?_) AllReadyH.nil
              simp only [List.getElem_toArray, List.getElem_cons_succ, List.getElem_cons_zero]
              go_simp
              refine (rsum_any A7 ab (N + q) c7 _ HRDa.out (HLN7.out ()) HCN7.out (by omega)).mono ?_
              rintro e' we ⟨h4, k4, rfl, hown, hB⟩
              rw [HSU7.out ()] at hown
              have HXe := Lib.hid (HXa.out.below hB HXa.out.lt); have HBe := Lib.hid (HBa.out.trans (hB.mono HBa.out.size)); have HVe := Lib.hid (own_gen HVa.out hB)
              have hse := conv_own (own_below HOa.out hB (Nat.le_refl _))
              have hce := conv_own hown
              clear hown hB
              refine hK.out _ _ hse (fun _ => ?_)
              clear hK K
              try simp only [List.getElem_toArray, List.getElem_cons_succ, List.getElem_cons_zero, Act.put, List.setIfInBounds_toArray, List.set_cons_zero, List.set_cons_succ]
              refine wpAnyH_ready (rs := [5]) (by kernel_rfl) (by simp) ?_
              refine AllReadyH.cons rfl (fun K hK => ?_) AllReadyH.nil
              simp only [List.getElem_toArray, List.getElem_cons_succ, List.getElem_cons_zero]
              go_simp
              refine hK.out _ _ hse (fun _ => ?_)
              clear hK K
              try simp only [List.getElem_toArray, List.getElem_cons_succ, List.getElem_cons_zero, Act.put, List.setIfInBounds_toArray, List.set_cons_zero, List.set_cons_succ]
              refine wpAnyH_take (i := 6) (v := ?v6p) rfl (by kernel_rfl) (by kernel_rfl) (by kernel_rfl) (fun _ _ _ h => h) (Or.inl ⟨by rfl, ?y6p⟩) hse ?r6p
              case y6p => (intro w hSw; clear hSw; go_simp; try with_reducible rfl)
              simp only [List.getElem_toArray, List.getElem_cons_succ, List.getElem_cons_zero, Act.put, List.setIfInBounds_toArray, List.set_cons_zero, List.set_cons_succ]
              refine wpAnyH_done (by kernel_rfl) ?_ _
              dsimp only
              go_wp2
              go_roundw
              case rel => exact ⟨k + 1, N + q, c7, A7, ab, by omega, by go_num, rfl, by omega, HVe, HAL7, Lib.hid (by rw [HS2e.out ()]; exact HXe.out), HBe⟩
              case measure => simp [intOf]; omega
    · obtain rfl : k = n := by omega
      have HSU : Hid (Unit → sum al = sumOf (takeAll start al)) := Lib.hid fun _ => rfl
      generalize takeAll start al = s2 at *
      go_wp2
      refine region_calm ?_
      refine wp_region_any (by kernel_rfl) ?_
      change wpAny _ _ _ _ _ _ _ (World.drew _)
      replace HX3 := Lib.hid HX3.out.drew
      replace HB3 := Lib.hid HB3.out.drew
      replace HRD3 := Lib.hid (show Rd wr.drew wr.drew.heap.size Av al from HRD3.out.keep fun _ _ => rfl)
      generalize wr.drew = wd at *
      refine wpAny_take (i := 0) (v := ?v0z) rfl (by kernel_rfl) (by kernel_rfl) (by kernel_rfl) (fun _ _ _ h => h) (Or.inl ⟨by rfl, ?y0z⟩) ?r0z
      case y0z => (intro w; go_simp; try with_reducible rfl)
      simp only [List.getElem_toArray, List.getElem_cons_succ, List.getElem_cons_zero, Act.put, List.setIfInBounds_toArray, List.set_cons_zero, List.set_cons_succ]
      refine wpAny_take (i := 1) (v := ?v1z) rfl (by kernel_rfl) (by kernel_rfl) (by kernel_rfl) (fun _ _ _ h => h) (Or.inl ⟨by rfl, ?y1z⟩) ?r1z
      case y1z => (intro w; go_simp; try with_reducible rfl)
      simp only [List.getElem_toArray, List.getElem_cons_succ, List.getElem_cons_zero, Act.put, List.setIfInBounds_toArray, List.set_cons_zero, List.set_cons_succ]
      refine wpAny_take (i := 2) (v := ?v2z) rfl (by kernel_rfl) (by kernel_rfl) (by kernel_rfl) (fun _ _ _ h => h) (Or.inl ⟨by rfl, ?y2z⟩) ?r2z
      case y2z => (intro w; go_simp; try with_reducible rfl)
      simp only [List.getElem_toArray, List.getElem_cons_succ, List.getElem_cons_zero, Act.put, List.setIfInBounds_toArray, List.set_cons_zero, List.set_cons_succ]
      refine wpAny_take (i := 5) (v := ?v5z) rfl (by kernel_rfl) (by kernel_rfl) (by kernel_rfl) (fun _ _ _ h => h) (Or.inl ⟨by rfl, ?y5z⟩) ?r5z
      case y5z => (intro w; go_simp; try with_reducible rfl)
      simp only [List.getElem_toArray, List.getElem_cons_succ, List.getElem_cons_zero, Act.put, List.setIfInBounds_toArray, List.set_cons_zero, List.set_cons_succ]
      refine wpAny_ready (rs := [3]) (by kernel_rfl) (by simp) ?_
      refine AllReady.cons rfl (fun K hK => ?_) AllReady.nil
      simp only [List.getElem_toArray, List.getElem_cons_succ, List.getElem_cons_zero]
      go_simp
      refine (hsum_any x s2 _ HX3.out HGD.out (HT.out.below HB3.out h2) (by omega)).mono ?_
      rintro e' wa ⟨h1, k1, rfl, hown, hB⟩
      have HOa := Lib.hid hown; have HBa := Lib.hid (HB3.out.trans (hB.mono HB3.out.size)); have HRDa := Lib.hid ((HRD3.out.below hB).more hB.size)
      have hsa := conv_own hown
      clear hown hB
      refine hK _ _ ?_
      clear hK K
      try simp only [List.getElem_toArray, List.getElem_cons_succ, List.getElem_cons_zero, Act.put, List.setIfInBounds_toArray, List.set_cons_zero, List.set_cons_succ]
      refine wpAny_of_held (S := fun w' => (convert 22 9 (.slice (some ⟨h1, 0, none⟩) 32 k1)).run Tryd.prog w' = .ok (.string (txt (sumOf s2))) w') _ _ _ _ ?_
      refine wpAnyH_take (i := 4) (v := ?v4z) rfl (by kernel_rfl) (by kernel_rfl) (by kernel_rfl) (fun _ _ _ h => h) (Or.inl ⟨by rfl, ?y4z⟩) hsa ?r4z
      case y4z => (intro w hSw; (try dsimp only at hSw); go_simp; try with_reducible rfl)
      simp only [List.getElem_toArray, List.getElem_cons_succ, List.getElem_cons_zero, Act.put, List.setIfInBounds_toArray, List.set_cons_zero, List.set_cons_succ]
      refine wpAnyH_ready (rs := [6]) (by kernel_rfl) (by simp) ?_
      refine AllReadyH.cons rfl (fun K hK => ?_) AllReadyH.nil
      simp only [List.getElem_toArray, List.getElem_cons_succ, List.getElem_cons_zero]
      go_simp
      refine (sum_any Av al N cv _ (HT.out.below HBa.out h2) HRDa.out (HLN3.out ()) hnc3 hcm3 (by omega)).mono ?_
      rintro e' we ⟨h4, k4, rfl, hown, hB⟩
      rw [HSU.out ()] at hown
      have HBe := Lib.hid (HBa.out.trans (hB.mono HBa.out.size))
      have hse := conv_own (own_below HOa.out hB (Nat.le_refl _))
      have hce := conv_own hown
      clear hown hB
      refine hK.out _ _ hse (fun _ => ?_)
      clear hK K
      try simp only [List.getElem_toArray, List.getElem_cons_succ, List.getElem_cons_zero, Act.put, List.setIfInBounds_toArray, List.set_cons_zero, List.set_cons_succ]
      refine wpAnyH_ready (rs := [7]) (by kernel_rfl) (by simp) ?_
      refine AllReadyH.cons rfl (fun K hK => ?_) AllReadyH.nil
      simp only [List.getElem_toArray, List.getElem_cons_succ, List.getElem_cons_zero]
      go_simp
      refine hK.out _ _ hse (fun _ => ?_)
      clear hK K
      try simp only [List.getElem_toArray, List.getElem_cons_succ, List.getElem_cons_zero, Act.put, List.setIfInBounds_toArray, List.set_cons_zero, List.set_cons_succ]
      refine wpAnyH_take (i := 8) (v := ?v8z) rfl (by kernel_rfl) (by kernel_rfl) (by kernel_rfl) (fun _ _ _ h => h) (Or.inl ⟨by rfl, ?y8z⟩) hse ?r8z
      case y8z => (intro w hSw; clear hSw; go_simp; try with_reducible rfl)
      simp only [List.getElem_toArray, List.getElem_cons_succ, List.getElem_cons_zero, Act.put, List.setIfInBounds_toArray, List.set_cons_zero, List.set_cons_succ]
      refine wpAnyH_take (i := 9) (v := ?v9z) rfl (by kernel_rfl) (by kernel_rfl) (by kernel_rfl) (fun _ _ _ h => h) (Or.inl ⟨by rfl, ?y9z⟩) hse ?r9z
      case y9z => (intro w hSw; clear hSw; go_simp; try with_reducible rfl)
      simp only [List.getElem_toArray, List.getElem_cons_succ, List.getElem_cons_zero, Act.put, List.setIfInBounds_toArray, List.set_cons_zero, List.set_cons_succ]
      refine wpAnyH_take (i := 10) (v := ?v10z) rfl (by kernel_rfl) (by kernel_rfl) (by kernel_rfl) (fun _ _ _ h => h) (Or.inl ⟨by rfl, ?y10z⟩) hse ?r10z
      case y10z => (intro w hSw; clear hSw; go_simp; try with_reducible rfl)
      simp only [List.getElem_toArray, List.getElem_cons_succ, List.getElem_cons_zero, Act.put, List.setIfInBounds_toArray, List.set_cons_zero, List.set_cons_succ]
      refine wpAnyH_done (by kernel_rfl) ?_ _
      change Exit.then _ _ Exit.normal _ _
      go_wp2
      go_ret
      exact ⟨rfl, HBe.out⟩

set_option maxHeartbeats 1000000 in
theorem plays_great (a0 : Option Addr) (n c : Nat) (w : World) (hT : Tables w) (h : 20 < n) :
    Calls Tryd.prog 4 #[.slice a0 n c] w fun e w' => e = .returned (.bool true) ∧ Below w.heap.size w w' := by
  have h2 := hT.lt
  have HT := Lib.hid hT; clear hT
  have hgt : 20 < (n : Int) := by omega
  go_enter Tryd.func4, Tryd.ntmps4
  go_wp2_with fail
  refine (head_any _ HT.out).mono ?_
  rintro e' w1 ⟨rfl, hB1⟩
  have HB1 := Lib.hid hB1; clear hB1
  go_wp2_with fail
  refine (new_any _ (HT.out.below HB1.out h2)).mono ?_
  rintro e' w2 ⟨rfl, hS, hB, hz⟩
  have HB2 := Lib.hid (HB1.out.trans (hB.mono HB1.out.size)); clear hS hB hz
  go_wp2
  go_ret
  exact ⟨rfl, HB2.out⟩

theorem sha2Plays_walk (a0 : Option Addr) (len0 cap0 : Nat) (w : World) (hT : Tables w) (w0 : IsRows w a0 len0 cap0) :
    Calls Tryd.prog 4 #[.slice a0 len0 cap0] w fun e w' => e = .returned (.bool true) ∧ Below w.heap.size w w' := by
  by_cases h : 20 < len0
  · exact plays_great a0 len0 cap0 w hT h
  · exact plays_walk a0 len0 cap0 w hT w0 (by omega)

end Go.Proofs.YtcgdpjdbfhdkkaaDoor.Sha
