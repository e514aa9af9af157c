/- The document's own: Mac, Extract. -/
import Derived.Test.YtfcnhendebjjeaaDoorHkRefI
import Derived.Test.YtfcnhendebjjeaaDoorHkParts
import Derived.Test.YtfcnhendebjjeaaDoorShaRefC
namespace Go.Proofs.YtfcnhendebjjeaaDoor.Sha
set_option linter.all false
open Go.RowKit Iter
attribute [local go_sem ↓] Go.wp_at_zero Go.wp_at_succ

/-- append onto a row of one's own, nil let in; where it lies behind -/
theorem wpList_append_loc {ops : Array Oper} {rest : List Oper} {o : Oper} {a : Act} {w : World} {Q : Exit → Act → World → Prop} (hgd : o.guard = none) (s x : Operand)
    (ho : o.op = .call { callee := .builtin .append, args := #[s, x], argTypes := #[22, 22] }) (base n m c B : Nat) (v : Value) (xs ys : List Nat) (A : Option Addr)
    (hs : a.eval s = v) (hx : a.eval x = .slice A m c)
    (hown : w.ownsRow base 5 1 v n (bcells xs)) (hR : Rd w B A ys) (hm : ys.length = m) (hc : A = none → c = 0) (hbd : n + m ≤ 1000000) (hbase : base ≤ w.heap.size)
    (k : ∀ v' w', w'.ownsRow base 5 1 v' (n + m) (bcells (xs ++ ys)) → w.grownBy w' v.ownBlock → (v'.ownBlock = v.ownBlock ∨ v'.ownBlock = some w.heap.size) → wpList Tryd.prog ops Q rest (a.put o.dst v') w') :
    wpList Tryd.prog ops Q (o :: rest) a w := by
  obtain ⟨i, hi, hz, hsz, hby⟩ := byteInfo
  have key : ∃ v' w', (Builtin.append_ #[22, 22] o.type #[v, .slice A m c]).run Tryd.prog w = .ok v' w' ∧ w'.ownsRow base 5 1 v' (n + m) (bcells (xs ++ ys)) ∧ w.grownBy w' v.ownBlock ∧ (v'.ownBlock = v.ownBlock ∨ v'.ownBlock = some w.heap.size) := by
    cases A with
    | none =>
      have h0 : m = 0 := by
        rcases Nat.eq_zero_or_pos m with h | h
        · exact h
        · obtain ⟨ad, e, _⟩ := hR.2 (by omega)
          cases e
      have hy : ys = [] := List.eq_nil_of_length_eq_zero (by omega)
      have hc0 := hc rfl
      subst h0 hy hc0
      exact ⟨v, w, run_append_owned_none (P := Tryd.prog) (w := w) base 22 o.type 5 i 1 Tryd.underlying22 hi _ n (bcells xs) hown, by simpa using hown, World.grownBy.refl _ _, .inl rfl⟩
    | some ad =>
      obtain ⟨v', w', hrun, h1, h2, _, h4⟩ := run_append_own_at (P := Tryd.prog) w base 22 o.type 5 i (.int .u8 0) 1 1 Tryd.underlying22 hi hz hsz hby rfl (by omega) _ n (bcells xs) hown ad m c (bcells ys) (by rw [bcells_len]; omega)
        (news_of_rd hR) (bcells_one ys) (by unfold maxLen; omega) (by omega) hbase
      rw [← bcells_append] at h1
      exact ⟨v', w', hrun, h1, h2, h4⟩
  obtain ⟨v', w', hrun, h1, h2, h3⟩ := key
  refine wpList_plain hgd fun K hK => ?_
  unfold Oper.wp execOp
  simp only [ho, resolve, invoke, builtin, Sem.run_bind, Sem.run_pure, Result.andThen_ok, List.map_toArray, List.map_cons, List.map_nil, hs, hx, hrun]
  exact hK _ _ (k v' w' h1 h2 h3)
theorem own_lt {w : World} {base n g : Nat} {v : Value} {xs : List Value} (h : w.ownsRow base 5 1 v n xs) (e : v.ownBlock = some g) : base ≤ g ∧ g < w.heap.size := by
  rcases h.2 with ⟨e1, _⟩ | ⟨g', c, cur, e1, hb, hc, _⟩
  · rw [e1] at e; cases e
  · rw [e1] at e
    have e2 : g' = g := Option.some.inj e
    subst e2
    exact ⟨hb, (Array.getElem?_eq_some_iff.1 hc).1⟩
theorem own_other {w w' : World} {base n : Nat} {v v6 : Value} {xs : List Value} (h : w.ownsRow base 5 1 v n xs) (hg : w.grownBy w' v6.ownBlock) (hne : ∀ g, v.ownBlock = some g → v6.ownBlock ≠ some g) : w'.ownsRow base 5 1 v n xs := by
  refine h.kept hg ?_
  cases hq : v.ownBlock with
  | none => exact .inl rfl
  | some g => exact .inr (fun e => hne g hq e.symm)
theorem apart_one {v6 v7 v6' : Value} {s s' : Nat} (h : ∀ g, v7.ownBlock = some g → v6.ownBlock ≠ some g) (hl : ∀ g, v7.ownBlock = some g → g < s) (hs : s ≤ s') (l : v6'.ownBlock = v6.ownBlock ∨ v6'.ownBlock = some s') : ∀ g, v7.ownBlock = some g → v6'.ownBlock ≠ some g := by
  intro g e e'
  rcases l with l | l
  · exact h g e (l ▸ e')
  · rw [l] at e'
    have := Option.some.inj e'
    have := hl g e
    omega
theorem apart_two {v6 v7 v7' : Value} {s s' : Nat} (h : ∀ g, v7.ownBlock = some g → v6.ownBlock ≠ some g) (hl : ∀ g, v6.ownBlock = some g → g < s) (hs : s ≤ s') (l : v7'.ownBlock = v7.ownBlock ∨ v7'.ownBlock = some s') : ∀ g, v7'.ownBlock = some g → v6.ownBlock ≠ some g := by
  intro g e e'
  rcases l with l | l
  · exact h g (l ▸ e) e'
  · rw [l] at e
    have := Option.some.inj e
    have := hl g e'
    omega
theorem tab_succ (n : Nat) (g : Nat → Nat) : tab (n + 1) g = tab n g ++ [g n] := by
  unfold tab; rw [List.range_succ, List.map_append]; rfl
/-- the first j bytes of a block, each unlike a mark -/
def unlike (b : List Nat) (m j : Nat) : List Nat := tab j fun i => gt b i ^^^ m
theorem unlike_all (b : List Nat) (m : Nat) : unlike b m 64 = xored b m := by
  refine ext_gt (tab_len _ _) (tab_len _ _) fun i hi => ?_
  unfold unlike xored xorTo
  rw [gt_tab _ _ _ hi, gt_tab _ _ _ hi, if_pos hi]
theorem unlike_lt {b : List Nat} (hb : ∀ i, gt b i < 256) {m : Nat} (hm : m < 256) (j : Nat) : ∀ i, gt (unlike b m j) i < 256 := by
  intro i
  by_cases h : i < j
  · unfold unlike; rw [gt_tab _ _ _ h]; exact xor256 (hb i) hm
  · rw [gt_ge _ _ (by unfold unlike; rw [tab_len]; omega)]; omega
theorem gt_block {key : List Nat} {i : Nat} (h : i < 64) : gt (blockK key) i = gt (keyed key) i := gt_tab _ _ _ h

set_option maxHeartbeats 4000000 in
set_option maxRecDepth 100000 in
/-- behind the key's own copy: the two rows, and the sums -/
theorem rmac_any (A A2 : Option Addr) (key t : List Nat) (n c n2 c2 : Nat) (w : World) (hR : Rd w w.heap.size A key) (hn : key.length = n) (hc : A = none → c = 0) (hm : n ≤ 20000)
    (hR2 : Rd w w.heap.size A2 t) (hn2 : t.length = n2) (hc2 : A2 = none → c2 = 0) (hm2 : n2 ≤ 20000) :
    Calls Tryd.prog 15 #[.slice A n c, .slice A2 n2 c2] w (Summed w (mac key t)) := by
  have HR := Lib.hid hR; have HN := Lib.hid (fun _ : Unit => hn); have HC := Lib.hid hc; have HR2 := Lib.hid hR2; have HN2 := Lib.hid (fun _ : Unit => hn2); have HC2 := Lib.hid hc2
  clear hR hn hc hR2 hn2 hc2
  obtain ⟨X, hX⟩ : ∃ X, mac key t = X := ⟨_, rfl⟩
  rw [hX]
  have HX := Lib.hid (fun _ : Unit => hX); clear hX
  have HNIL := Lib.hid (nil_own w (base := w.heap.size) (Nat.le_refl _))
  have HB0 := Lib.hid ((Below.refl w.heap.size w).alloc (Nat.le_refl _) (.cells #[] 5))
  have HR0 := Lib.hid (HR.out.below HB0.out)
  go_enter Tryd.func15, Tryd.ntmps15
  go_wp2_with (at_builtin; refine wpList_append_rd rfl (.tmp 10) (.tmp 11) rfl w.heap.size w.heap.size 0 0 n c w.heap.size [] key A rfl rfl HNIL.out HR0.out (HN.out ()) HC.out (by omega) (by simp) ?_)
  intro g1 cap1 w1 hown hgrow hat
  try simp only [Nat.zero_add, List.nil_append] at hown
  have HO1 := Lib.hid hown; have HB1 := Lib.hid (below_of_only HB0.out hgrow (Nat.le_refl _))
  clear hown hgrow hat HNIL HB0 HR0
  have hs1 := HB1.out.size
  have HKY := Lib.hid (keyed_lt HR.out.1)
  by_cases h64 : 64 < n
  · have y0 : (64 : Int) < (n : Int) := by omega
    have HKE : Hid (Unit → keyed key = sum key) := Lib.hid fun _ => by unfold keyed; rw [if_pos (by rw [HN.out ()]; exact h64)]
    have hcp := own_cap HO1.out
    unfold maxLen at hcp
    go_wp2_with fail
    refine (rsum_any (some ⟨g1, 0, none⟩) key n cap1 w1 (rd_of_own HO1.out HR.out.1 (Nat.le_refl _)) (HN.out ()) (fun e => by cases e) (by omega)).mono ?_
    rintro e' Wk ⟨gk, capk, rfl, hown2, hB2⟩
    have HBk := Lib.hid (HB1.out.trans (hB2.mono hs1))
    have HKn : Hid ((sum key).length = 32) := Lib.hid (sum_len key)
    have HKl : Hid (∀ i, gt (sum key) i < 256) := Lib.hid (sum_lt key)
    obtain ⟨K, hK⟩ : ∃ K, sum key = K := ⟨_, rfl⟩
    rw [hK] at hown2 HKn HKl HKE
    clear hK hB2 HO1 HB1
    obtain ⟨nk, hnk⟩ : ∃ nk, 32 = nk := ⟨_, rfl⟩
    have HOk := Lib.hid hown2
    clear hown2
    rw [hnk] at HKn HOk ⊢
    have hnk64 : nk ≤ 64 := by omega
    clear hnk
    go_wp2_with fail
    have hsk := HBk.out.size
    obtain ⟨B, hB⟩ : ∃ B, blockK key = B := ⟨_, rfl⟩
    have HBB := Lib.hid (fun _ : Unit => hB)
    have HBl : Hid (∀ i, gt B i < 256) := Lib.hid (by rw [← hB]; exact (ok_blockK HR.out.1).2)
    have HBg : Hid (∀ i, i < 64 → gt B i = gt K i) := Lib.hid (by rw [← hB]; exact fun i hi => by rw [gt_block hi, HKE.out ()])
    clear hB
    go_loopw [6, 7, 8] (fun v6 v7 i W => ∃ (j c6 c7 : Nat) (A6 A7 : Option Addr), j ≤ 64 ∧ i = .int .i64 j ∧ v6 = .slice A6 j c6 ∧ v7 = .slice A7 j c7 ∧ Hid (W.ownsRow Wk.heap.size 5 1 (.slice A6 j c6) j (bcells (unlike B 54 j))) ∧ Hid (W.ownsRow Wk.heap.size 5 1 (.slice A7 j c7) j (bcells (unlike B 92 j))) ∧ Hid (∀ g, (Value.slice A7 j c7).ownBlock = some g → (Value.slice A6 j c6).ownBlock ≠ some g) ∧ Hid (Below Wk.heap.size Wk W)) (fun _ _ i _ => 64 - (intOf i).toNat)
    case atStart => exact ⟨0, 0, 0, none, none, by omega, rfl, rfl, rfl, Lib.hid ⟨rfl, .inl ⟨rfl, rfl⟩⟩, Lib.hid ⟨rfl, .inl ⟨rfl, rfl⟩⟩, Lib.hid (fun g e => by cases e), Lib.hid (Below.refl _ _)⟩
    case round =>
      obtain ⟨j, c6, c7, A6, A7, hj, rfl, rfl, rfl, HV6, HV7, HAP, HCk⟩ := hrel
      by_cases hj64 : j < 64
      · have yj : (j : Int) < 64 := by omega
        obtain ⟨x, hxe⟩ : ∃ x, gt K j = x := ⟨_, rfl⟩
        have hx256 : x < 256 := by rw [← hxe]; exact HKl.out j
        have HU54 : Hid (Unit → unlike B 54 j ++ [x ^^^ 54] = unlike B 54 (j + 1)) := Lib.hid fun _ => by unfold unlike; rw [tab_succ, HBg.out j hj64, hxe]
        have HU92 : Hid (Unit → unlike B 92 j ++ [x ^^^ 92] = unlike B 92 (j + 1)) := Lib.hid fun _ => by unfold unlike; rw [tab_succ, HBg.out j hj64, hxe]
        by_cases hjk : j < nk
        · have yk : (j : Int) < (nk : Int) := by omega
          have c0 : wr.cell? ⟨gk, j, none⟩ = some (.int .u8 (x : Nat)) := by
            rw [(own_below HOk.out HCk.out (Nat.le_refl _)).cellAt j (by omega), bcells_at K j (by rw [HKn.out]; exact hjk), hxe]
          have e54 : bits .xor .u8 (x : Int) 54 = ((x ^^^ 54 : Nat) : Int) := xor_bits8 hx256 (by omega : 54 < 256)
          have e92 : bits .xor .u8 (x : Int) 92 = ((x ^^^ 92 : Nat) : Int) := xor_bits8 hx256 (by omega : 92 < 256)
          have HBy := Lib.hid (byte_rd wr ((x ^^^ 54 : Nat) : Int) (x ^^^ 54) rfl (xor256 hx256 (by omega)) (B := wr.heap.size + 1) (by omega))
          have HA := Lib.hid ((Below.refl wr.heap.size wr).alloc (Nat.le_refl _) (.cells #[.int .u8 ((x ^^^ 54 : Nat) : Int)] 5))
          have HV6a := Lib.hid (own_gen HV6.out HA.out)
          have HV7a := Lib.hid (own_gen HV7.out HA.out)
          have HCa := Lib.hid (HCk.out.alloc HCk.out.size (.cells #[.int .u8 ((x ^^^ 54 : Nat) : Int)] 5))
          go_wp2_with (at_builtin; refine wpList_append_loc rfl (.tmp 30) (.tmp 33) rfl Wk.heap.size j 1 1 (wr.heap.size + 1) (.slice A6 j c6) (unlike B 54 j) [x ^^^ 54] (some ⟨wr.heap.size, 0, none⟩) rfl rfl HV6a.out HBy.out rfl (fun e => by cases e) (by omega) (by have := HCk.out.size; simp; omega) ?_)
          intro v6' w5 h1 g1w l1
          rw [HU54.out ()] at h1
          have HV65 := Lib.hid h1
          have HV75 := Lib.hid (own_other HV7a.out g1w HAP.out)
          have HC5 := Lib.hid (under_own HCa.out HV6a.out (Nat.le_refl _) g1w (by have := HCk.out.size; simp; omega))
          have HAP5 : Hid (∀ g, (Value.slice A7 j c7).ownBlock = some g → v6'.ownBlock ≠ some g) := Lib.hid (apart_one HAP.out (fun g e => (own_lt HV7.out e).2) (by simp) l1)
          clear h1 g1w l1 HV6a HV7a HCa HA HBy
          obtain ⟨A6', c6', rfl, -, -, -, -, -, -⟩ := own_slice HV65.out (unlike_lt HBl.out (by omega) (j + 1))
          have HBy := Lib.hid (byte_rd w5 ((x ^^^ 92 : Nat) : Int) (x ^^^ 92) rfl (xor256 hx256 (by omega)) (B := w5.heap.size + 1) (by omega))
          have HA := Lib.hid ((Below.refl w5.heap.size w5).alloc (Nat.le_refl _) (.cells #[.int .u8 ((x ^^^ 92 : Nat) : Int)] 5))
          have HV6b := Lib.hid (own_gen HV65.out HA.out)
          have HV7b := Lib.hid (own_gen HV75.out HA.out)
          have HCb := Lib.hid (HC5.out.alloc HC5.out.size (.cells #[.int .u8 ((x ^^^ 92 : Nat) : Int)] 5))
          go_wp2_with (at_builtin; refine wpList_append_loc rfl (.tmp 35) (.tmp 38) rfl Wk.heap.size j 1 1 (w5.heap.size + 1) (.slice A7 j c7) (unlike B 92 j) [x ^^^ 92] (some ⟨w5.heap.size, 0, none⟩) rfl rfl HV7b.out HBy.out rfl (fun e => by cases e) (by omega) (by have := HC5.out.size; simp; omega) ?_)
          intro v7' w6 h1 g1w l1
          rw [HU92.out ()] at h1
          have HV76 := Lib.hid h1
          have HV66 := Lib.hid (own_other HV6b.out g1w fun g e e' => HAP5.out g e' e)
          have HC6 := Lib.hid (under_own HCb.out HV7b.out (Nat.le_refl _) g1w (by have := HC5.out.size; simp; omega))
          have HAP6 : Hid (∀ g, v7'.ownBlock = some g → (Value.slice A6' (j + 1) c6').ownBlock ≠ some g) := Lib.hid (apart_two HAP5.out (fun g e => (own_lt HV65.out e).2) (by simp) l1)
          clear h1 g1w l1 HV6b HV7b HCb HA HBy
          obtain ⟨A7', c7', rfl, -, -, -, -, -, -⟩ := own_slice HV76.out (unlike_lt HBl.out (by omega) (j + 1))
          go_wp2
          go_roundw
          case rel => exact ⟨j + 1, c6', c7', A6', A7', by omega, by go_num, rfl, rfl, HV66, HV76, HAP6, HC6⟩
          case measure => simp [intOf]; omega
        · have yk : ¬ (j : Int) < (nk : Int) := by omega
          have hx0 : x = 0 := by rw [← hxe]; exact gt_ge _ _ (by rw [HKn.out]; omega)
          have E54 : Hid (Unit → (54 : Int) = ((x ^^^ 54 : Nat) : Int)) := Lib.hid fun _ => by rw [hx0, Nat.zero_xor]; rfl
          have E92 : Hid (Unit → (92 : Int) = ((x ^^^ 92 : Nat) : Int)) := Lib.hid fun _ => by rw [hx0, Nat.zero_xor]; rfl
          have e54 : bits .xor .u8 (0 : Int) 54 = (54 : Int) := rfl
          have e92 : bits .xor .u8 (0 : Int) 92 = (92 : Int) := rfl
          clear hx0
          have HBy := Lib.hid (byte_rd wr (54 : Int) (x ^^^ 54) (E54.out ()) (xor256 hx256 (by omega)) (B := wr.heap.size + 1) (by omega))
          have HA := Lib.hid ((Below.refl wr.heap.size wr).alloc (Nat.le_refl _) (.cells #[.int .u8 (54 : Int)] 5))
          have HV6a := Lib.hid (own_gen HV6.out HA.out)
          have HV7a := Lib.hid (own_gen HV7.out HA.out)
          have HCa := Lib.hid (HCk.out.alloc HCk.out.size (.cells #[.int .u8 (54 : Int)] 5))
          go_wp2_with (at_builtin; refine wpList_append_loc rfl (.tmp 30) (.tmp 33) rfl Wk.heap.size j 1 1 (wr.heap.size + 1) (.slice A6 j c6) (unlike B 54 j) [x ^^^ 54] (some ⟨wr.heap.size, 0, none⟩) rfl rfl HV6a.out HBy.out rfl (fun e => by cases e) (by omega) (by have := HCk.out.size; simp; omega) ?_)
          intro v6' w5 h1 g1w l1
          rw [HU54.out ()] at h1
          have HV65 := Lib.hid h1
          have HV75 := Lib.hid (own_other HV7a.out g1w HAP.out)
          have HC5 := Lib.hid (under_own HCa.out HV6a.out (Nat.le_refl _) g1w (by have := HCk.out.size; simp; omega))
          have HAP5 : Hid (∀ g, (Value.slice A7 j c7).ownBlock = some g → v6'.ownBlock ≠ some g) := Lib.hid (apart_one HAP.out (fun g e => (own_lt HV7.out e).2) (by simp) l1)
          clear h1 g1w l1 HV6a HV7a HCa HA HBy
          obtain ⟨A6', c6', rfl, -, -, -, -, -, -⟩ := own_slice HV65.out (unlike_lt HBl.out (by omega) (j + 1))
          have HBy := Lib.hid (byte_rd w5 (92 : Int) (x ^^^ 92) (E92.out ()) (xor256 hx256 (by omega)) (B := w5.heap.size + 1) (by omega))
          have HA := Lib.hid ((Below.refl w5.heap.size w5).alloc (Nat.le_refl _) (.cells #[.int .u8 (92 : Int)] 5))
          have HV6b := Lib.hid (own_gen HV65.out HA.out)
          have HV7b := Lib.hid (own_gen HV75.out HA.out)
          have HCb := Lib.hid (HC5.out.alloc HC5.out.size (.cells #[.int .u8 (92 : Int)] 5))
          go_wp2_with (at_builtin; refine wpList_append_loc rfl (.tmp 35) (.tmp 38) rfl Wk.heap.size j 1 1 (w5.heap.size + 1) (.slice A7 j c7) (unlike B 92 j) [x ^^^ 92] (some ⟨w5.heap.size, 0, none⟩) rfl rfl HV7b.out HBy.out rfl (fun e => by cases e) (by omega) (by have := HC5.out.size; simp; omega) ?_)
          intro v7' w6 h1 g1w l1
          rw [HU92.out ()] at h1
          have HV76 := Lib.hid h1
          have HV66 := Lib.hid (own_other HV6b.out g1w fun g e e' => HAP5.out g e' e)
          have HC6 := Lib.hid (under_own HCb.out HV7b.out (Nat.le_refl _) g1w (by have := HC5.out.size; simp; omega))
          have HAP6 : Hid (∀ g, v7'.ownBlock = some g → (Value.slice A6' (j + 1) c6').ownBlock ≠ some g) := Lib.hid (apart_two HAP5.out (fun g e => (own_lt HV65.out e).2) (by simp) l1)
          clear h1 g1w l1 HV6b HV7b HCb HA HBy
          obtain ⟨A7', c7', rfl, -, -, -, -, -, -⟩ := own_slice HV76.out (unlike_lt HBl.out (by omega) (j + 1))
          go_wp2
          go_roundw
          case rel => exact ⟨j + 1, c6', c7', A6', A7', by omega, by go_num, rfl, rfl, HV66, HV76, HAP6, HC6⟩
          case measure => simp [intOf]; omega
      · obtain rfl : j = 64 := by omega
        have HBw := Lib.hid (HBk.out.trans (HCk.out.mono hsk))
        have HV6' := Lib.hid HV6.out; have HV7' := Lib.hid HV7.out
        rw [unlike_all] at HV6' HV7'
        have HX6 : Hid (∀ i, gt (xored B 54) i < 256) := Lib.hid (by rw [← unlike_all]; exact unlike_lt HBl.out (by omega) 64)
        have HX7 : Hid (∀ i, gt (xored B 92) i < 256) := Lib.hid (by rw [← unlike_all]; exact unlike_lt HBl.out (by omega) 64)
        have HR29 := Lib.hid (HR2.out.below HBw.out)
        go_wp2_with (at_builtin; refine wpList_append_loc rfl (.tmp 41) (.tmp 42) rfl Wk.heap.size 64 n2 c2 w.heap.size (.slice A6 64 c6) (xored B 54) t A2 rfl rfl HV6'.out HR29.out (HN2.out ()) HC2.out (by omega) HCk.out.size ?_)
        intro v8 w8 h8 g8 l8
        have HV8 := Lib.hid h8
        have HV78 := Lib.hid (own_other HV7'.out g8 HAP.out)
        have HC8 := Lib.hid (under_own HCk.out HV6'.out (Nat.le_refl _) g8 HCk.out.size)
        have HX8 := Lib.hid (gt_append_lt HX6.out HR2.out.1)
        obtain ⟨T, hT⟩ : ∃ T, xored B 54 ++ t = T := ⟨_, rfl⟩
        rw [hT] at HV8 HX8
        have HTE := Lib.hid (fun _ : Unit => hT); clear hT h8 g8 l8 HV6 HV7 HV6' HV7' HR29 HAP
        obtain ⟨A8, c8, rfl, hA8, hnc8, hcm8, hrd8, hlen8, hblk8⟩ := own_slice HV8.out HX8.out
        have HRD8 := Lib.hid hrd8; have HLN8 := Lib.hid (fun _ : Unit => hlen8); have HA8 := Lib.hid hA8
        clear hrd8 hlen8 hA8 hblk8
        go_wp2_with fail
        refine (rsum_any A8 T (64 + n2) c8 w8 HRD8.out (HLN8.out ()) HA8.out (by omega)).mono ?_
        rintro e' w9 ⟨h9, c9, rfl, hown9, hB9⟩
        have HO9 := Lib.hid hown9; have HV79 := Lib.hid (own_gen HV78.out hB9); have HC9 := Lib.hid (HC8.out.trans (hB9.mono HC8.out.size))
        have HRS := Lib.hid (rd_of_own HO9.out (sum_lt T) (Nat.le_refl _))
        have HSL : Hid ((sum T).length = 32 ∧ ∀ i, gt (sum T) i < 256) := Lib.hid ⟨sum_len T, sum_lt T⟩
        obtain ⟨S, hS⟩ : ∃ S, sum T = S := ⟨_, rfl⟩
        rw [hS] at HRS HSL
        have HSE := Lib.hid (fun _ : Unit => hS); clear hS hown9 hB9 HO9 HV78 HV8 HC8
        go_wp2_with (at_builtin; refine wpList_append_loc rfl (.tmp 40) (.tmp 44) rfl Wk.heap.size 64 32 c9 w9.heap.size (.slice A7 64 c7) (xored B 92) S (some ⟨h9, 0, none⟩) rfl rfl HV79.out HRS.out HSL.out.1 (fun e => by cases e) (by omega) HC9.out.size ?_)
        intro v10 w10 h10 g10 l10
        have HV10 := Lib.hid h10
        have HC10 := Lib.hid (under_own HC9.out HV79.out (Nat.le_refl _) g10 HC9.out.size)
        have HX10 := Lib.hid (gt_append_lt HX7.out HSL.out.2)
        obtain ⟨U, hU⟩ : ∃ U, xored B 92 ++ S = U := ⟨_, rfl⟩
        rw [hU] at HV10 HX10
        have HUE := Lib.hid (fun _ : Unit => hU); clear hU h10 g10 l10 HV79 HRS
        obtain ⟨A10, c10, rfl, hA10, hnc10, hcm10, hrd10, hlen10, hblk10⟩ := own_slice HV10.out HX10.out
        have HRD10 := Lib.hid hrd10; have HLN10 := Lib.hid (fun _ : Unit => hlen10); have HA10 := Lib.hid hA10
        clear hrd10 hlen10 hA10 hblk10
        have HB10 := Lib.hid (HBk.out.trans (HC10.out.mono hsk))
        go_wp2_with fail
        refine (rsum_any A10 U (64 + 32) c10 w10 HRD10.out (HLN10.out ()) HA10.out (by omega)).mono ?_
        rintro e' w11 ⟨h11, c11, rfl, hown11, hB11⟩
        have HXE : Hid (Unit → sum U = X) := Lib.hid fun _ => by rw [← HX.out (), ← HUE.out (), ← HSE.out (), ← HTE.out (), ← HBB.out ()]; rfl
        rw [HXE.out ()] at hown11
        have HO11 := Lib.hid hown11; have HB11 := Lib.hid (HB10.out.trans (hB11.mono HB10.out.size)); clear hown11 hB11
        go_wp2
        go_ret
        exact ⟨h11, c11, rfl, own_lower HO11.out HB10.out.size, HB11.out⟩
  · have y0 : ¬ (64 : Int) < (n : Int) := by omega
    have HKE : Hid (Unit → keyed key = key) := Lib.hid fun _ => by unfold keyed; rw [if_neg (by rw [HN.out ()]; exact h64)]
    obtain ⟨Wk, rfl⟩ : ∃ Wk, Wk = w1 := ⟨_, rfl⟩
    obtain ⟨gk, rfl⟩ : ∃ gk, gk = g1 := ⟨_, rfl⟩
    obtain ⟨capk, rfl⟩ : ∃ capk, capk = cap1 := ⟨_, rfl⟩
    obtain ⟨nk, rfl⟩ : ∃ nk, nk = n := ⟨_, rfl⟩
    obtain ⟨K, rfl⟩ : ∃ K, K = key := ⟨_, rfl⟩
    have HBk := Lib.hid HB1.out
    have HKn : Hid (K.length = nk) := Lib.hid (HN.out ())
    have HKl : Hid (∀ i, gt K i < 256) := Lib.hid HR.out.1
    have hnk64 : nk ≤ 64 := by omega
    have HOk := Lib.hid HO1.out
    go_wp2_with fail
    have hsk := HBk.out.size
    obtain ⟨B, hB⟩ : ∃ B, blockK K = B := ⟨_, rfl⟩
    have HBB := Lib.hid (fun _ : Unit => hB)
    have HBl : Hid (∀ i, gt B i < 256) := Lib.hid (by rw [← hB]; exact (ok_blockK HR.out.1).2)
    have HBg : Hid (∀ i, i < 64 → gt B i = gt K i) := Lib.hid (by rw [← hB]; exact fun i hi => by rw [gt_block hi, HKE.out ()])
    clear hB
    go_loopw [6, 7, 8] (fun v6 v7 i W => ∃ (j c6 c7 : Nat) (A6 A7 : Option Addr), j ≤ 64 ∧ i = .int .i64 j ∧ v6 = .slice A6 j c6 ∧ v7 = .slice A7 j c7 ∧ Hid (W.ownsRow Wk.heap.size 5 1 (.slice A6 j c6) j (bcells (unlike B 54 j))) ∧ Hid (W.ownsRow Wk.heap.size 5 1 (.slice A7 j c7) j (bcells (unlike B 92 j))) ∧ Hid (∀ g, (Value.slice A7 j c7).ownBlock = some g → (Value.slice A6 j c6).ownBlock ≠ some g) ∧ Hid (Below Wk.heap.size Wk W)) (fun _ _ i _ => 64 - (intOf i).toNat)
    case atStart => exact ⟨0, 0, 0, none, none, by omega, rfl, rfl, rfl, Lib.hid ⟨rfl, .inl ⟨rfl, rfl⟩⟩, Lib.hid ⟨rfl, .inl ⟨rfl, rfl⟩⟩, Lib.hid (fun g e => by cases e), Lib.hid (Below.refl _ _)⟩
    case round =>
      obtain ⟨j, c6, c7, A6, A7, hj, rfl, rfl, rfl, HV6, HV7, HAP, HCk⟩ := hrel
      by_cases hj64 : j < 64
      · have yj : (j : Int) < 64 := by omega
        obtain ⟨x, hxe⟩ : ∃ x, gt K j = x := ⟨_, rfl⟩
        have hx256 : x < 256 := by rw [← hxe]; exact HKl.out j
        have HU54 : Hid (Unit → unlike B 54 j ++ [x ^^^ 54] = unlike B 54 (j + 1)) := Lib.hid fun _ => by unfold unlike; rw [tab_succ, HBg.out j hj64, hxe]
        have HU92 : Hid (Unit → unlike B 92 j ++ [x ^^^ 92] = unlike B 92 (j + 1)) := Lib.hid fun _ => by unfold unlike; rw [tab_succ, HBg.out j hj64, hxe]
        by_cases hjk : j < nk
        · have yk : (j : Int) < (nk : Int) := by omega
          have c0 : wr.cell? ⟨gk, j, none⟩ = some (.int .u8 (x : Nat)) := by
            rw [(own_below HOk.out HCk.out (Nat.le_refl _)).cellAt j (by omega), bcells_at K j (by rw [HKn.out]; exact hjk), hxe]
          have e54 : bits .xor .u8 (x : Int) 54 = ((x ^^^ 54 : Nat) : Int) := xor_bits8 hx256 (by omega : 54 < 256)
          have e92 : bits .xor .u8 (x : Int) 92 = ((x ^^^ 92 : Nat) : Int) := xor_bits8 hx256 (by omega : 92 < 256)
          have HBy := Lib.hid (byte_rd wr ((x ^^^ 54 : Nat) : Int) (x ^^^ 54) rfl (xor256 hx256 (by omega)) (B := wr.heap.size + 1) (by omega))
          have HA := Lib.hid ((Below.refl wr.heap.size wr).alloc (Nat.le_refl _) (.cells #[.int .u8 ((x ^^^ 54 : Nat) : Int)] 5))
          have HV6a := Lib.hid (own_gen HV6.out HA.out)
          have HV7a := Lib.hid (own_gen HV7.out HA.out)
          have HCa := Lib.hid (HCk.out.alloc HCk.out.size (.cells #[.int .u8 ((x ^^^ 54 : Nat) : Int)] 5))
          go_wp2_with (at_builtin; refine wpList_append_loc rfl (.tmp 30) (.tmp 33) rfl Wk.heap.size j 1 1 (wr.heap.size + 1) (.slice A6 j c6) (unlike B 54 j) [x ^^^ 54] (some ⟨wr.heap.size, 0, none⟩) rfl rfl HV6a.out HBy.out rfl (fun e => by cases e) (by omega) (by have := HCk.out.size; simp; omega) ?_)
          intro v6' w5 h1 g1w l1
          rw [HU54.out ()] at h1
          have HV65 := Lib.hid h1
          have HV75 := Lib.hid (own_other HV7a.out g1w HAP.out)
          have HC5 := Lib.hid (under_own HCa.out HV6a.out (Nat.le_refl _) g1w (by have := HCk.out.size; simp; omega))
          have HAP5 : Hid (∀ g, (Value.slice A7 j c7).ownBlock = some g → v6'.ownBlock ≠ some g) := Lib.hid (apart_one HAP.out (fun g e => (own_lt HV7.out e).2) (by simp) l1)
          clear h1 g1w l1 HV6a HV7a HCa HA HBy
          obtain ⟨A6', c6', rfl, -, -, -, -, -, -⟩ := own_slice HV65.out (unlike_lt HBl.out (by omega) (j + 1))
          have HBy := Lib.hid (byte_rd w5 ((x ^^^ 92 : Nat) : Int) (x ^^^ 92) rfl (xor256 hx256 (by omega)) (B := w5.heap.size + 1) (by omega))
          have HA := Lib.hid ((Below.refl w5.heap.size w5).alloc (Nat.le_refl _) (.cells #[.int .u8 ((x ^^^ 92 : Nat) : Int)] 5))
          have HV6b := Lib.hid (own_gen HV65.out HA.out)
          have HV7b := Lib.hid (own_gen HV75.out HA.out)
          have HCb := Lib.hid (HC5.out.alloc HC5.out.size (.cells #[.int .u8 ((x ^^^ 92 : Nat) : Int)] 5))
          go_wp2_with (at_builtin; refine wpList_append_loc rfl (.tmp 35) (.tmp 38) rfl Wk.heap.size j 1 1 (w5.heap.size + 1) (.slice A7 j c7) (unlike B 92 j) [x ^^^ 92] (some ⟨w5.heap.size, 0, none⟩) rfl rfl HV7b.out HBy.out rfl (fun e => by cases e) (by omega) (by have := HC5.out.size; simp; omega) ?_)
          intro v7' w6 h1 g1w l1
          rw [HU92.out ()] at h1
          have HV76 := Lib.hid h1
          have HV66 := Lib.hid (own_other HV6b.out g1w fun g e e' => HAP5.out g e' e)
          have HC6 := Lib.hid (under_own HCb.out HV7b.out (Nat.le_refl _) g1w (by have := HC5.out.size; simp; omega))
          have HAP6 : Hid (∀ g, v7'.ownBlock = some g → (Value.slice A6' (j + 1) c6').ownBlock ≠ some g) := Lib.hid (apart_two HAP5.out (fun g e => (own_lt HV65.out e).2) (by simp) l1)
          clear h1 g1w l1 HV6b HV7b HCb HA HBy
          obtain ⟨A7', c7', rfl, -, -, -, -, -, -⟩ := own_slice HV76.out (unlike_lt HBl.out (by omega) (j + 1))
          go_wp2
          go_roundw
          case rel => exact ⟨j + 1, c6', c7', A6', A7', by omega, by go_num, rfl, rfl, HV66, HV76, HAP6, HC6⟩
          case measure => simp [intOf]; omega
        · have yk : ¬ (j : Int) < (nk : Int) := by omega
          have hx0 : x = 0 := by rw [← hxe]; exact gt_ge _ _ (by rw [HKn.out]; omega)
          have E54 : Hid (Unit → (54 : Int) = ((x ^^^ 54 : Nat) : Int)) := Lib.hid fun _ => by rw [hx0, Nat.zero_xor]; rfl
          have E92 : Hid (Unit → (92 : Int) = ((x ^^^ 92 : Nat) : Int)) := Lib.hid fun _ => by rw [hx0, Nat.zero_xor]; rfl
          have e54 : bits .xor .u8 (0 : Int) 54 = (54 : Int) := rfl
          have e92 : bits .xor .u8 (0 : Int) 92 = (92 : Int) := rfl
          clear hx0
          have HBy := Lib.hid (byte_rd wr (54 : Int) (x ^^^ 54) (E54.out ()) (xor256 hx256 (by omega)) (B := wr.heap.size + 1) (by omega))
          have HA := Lib.hid ((Below.refl wr.heap.size wr).alloc (Nat.le_refl _) (.cells #[.int .u8 (54 : Int)] 5))
          have HV6a := Lib.hid (own_gen HV6.out HA.out)
          have HV7a := Lib.hid (own_gen HV7.out HA.out)
          have HCa := Lib.hid (HCk.out.alloc HCk.out.size (.cells #[.int .u8 (54 : Int)] 5))
          go_wp2_with (at_builtin; refine wpList_append_loc rfl (.tmp 30) (.tmp 33) rfl Wk.heap.size j 1 1 (wr.heap.size + 1) (.slice A6 j c6) (unlike B 54 j) [x ^^^ 54] (some ⟨wr.heap.size, 0, none⟩) rfl rfl HV6a.out HBy.out rfl (fun e => by cases e) (by omega) (by have := HCk.out.size; simp; omega) ?_)
          intro v6' w5 h1 g1w l1
          rw [HU54.out ()] at h1
          have HV65 := Lib.hid h1
          have HV75 := Lib.hid (own_other HV7a.out g1w HAP.out)
          have HC5 := Lib.hid (under_own HCa.out HV6a.out (Nat.le_refl _) g1w (by have := HCk.out.size; simp; omega))
          have HAP5 : Hid (∀ g, (Value.slice A7 j c7).ownBlock = some g → v6'.ownBlock ≠ some g) := Lib.hid (apart_one HAP.out (fun g e => (own_lt HV7.out e).2) (by simp) l1)
          clear h1 g1w l1 HV6a HV7a HCa HA HBy
          obtain ⟨A6', c6', rfl, -, -, -, -, -, -⟩ := own_slice HV65.out (unlike_lt HBl.out (by omega) (j + 1))
          have HBy := Lib.hid (byte_rd w5 (92 : Int) (x ^^^ 92) (E92.out ()) (xor256 hx256 (by omega)) (B := w5.heap.size + 1) (by omega))
          have HA := Lib.hid ((Below.refl w5.heap.size w5).alloc (Nat.le_refl _) (.cells #[.int .u8 (92 : Int)] 5))
          have HV6b := Lib.hid (own_gen HV65.out HA.out)
          have HV7b := Lib.hid (own_gen HV75.out HA.out)
          have HCb := Lib.hid (HC5.out.alloc HC5.out.size (.cells #[.int .u8 (92 : Int)] 5))
          go_wp2_with (at_builtin; refine wpList_append_loc rfl (.tmp 35) (.tmp 38) rfl Wk.heap.size j 1 1 (w5.heap.size + 1) (.slice A7 j c7) (unlike B 92 j) [x ^^^ 92] (some ⟨w5.heap.size, 0, none⟩) rfl rfl HV7b.out HBy.out rfl (fun e => by cases e) (by omega) (by have := HC5.out.size; simp; omega) ?_)
          intro v7' w6 h1 g1w l1
          rw [HU92.out ()] at h1
          have HV76 := Lib.hid h1
          have HV66 := Lib.hid (own_other HV6b.out g1w fun g e e' => HAP5.out g e' e)
          have HC6 := Lib.hid (under_own HCb.out HV7b.out (Nat.le_refl _) g1w (by have := HC5.out.size; simp; omega))
          have HAP6 : Hid (∀ g, v7'.ownBlock = some g → (Value.slice A6' (j + 1) c6').ownBlock ≠ some g) := Lib.hid (apart_two HAP5.out (fun g e => (own_lt HV65.out e).2) (by simp) l1)
          clear h1 g1w l1 HV6b HV7b HCb HA HBy
          obtain ⟨A7', c7', rfl, -, -, -, -, -, -⟩ := own_slice HV76.out (unlike_lt HBl.out (by omega) (j + 1))
          go_wp2
          go_roundw
          case rel => exact ⟨j + 1, c6', c7', A6', A7', by omega, by go_num, rfl, rfl, HV66, HV76, HAP6, HC6⟩
          case measure => simp [intOf]; omega
      · obtain rfl : j = 64 := by omega
        have HBw := Lib.hid (HBk.out.trans (HCk.out.mono hsk))
        have HV6' := Lib.hid HV6.out; have HV7' := Lib.hid HV7.out
        rw [unlike_all] at HV6' HV7'
        have HX6 : Hid (∀ i, gt (xored B 54) i < 256) := Lib.hid (by rw [← unlike_all]; exact unlike_lt HBl.out (by omega) 64)
        have HX7 : Hid (∀ i, gt (xored B 92) i < 256) := Lib.hid (by rw [← unlike_all]; exact unlike_lt HBl.out (by omega) 64)
        have HR29 := Lib.hid (HR2.out.below HBw.out)
        go_wp2_with (at_builtin; refine wpList_append_loc rfl (.tmp 41) (.tmp 42) rfl Wk.heap.size 64 n2 c2 w.heap.size (.slice A6 64 c6) (xored B 54) t A2 rfl rfl HV6'.out HR29.out (HN2.out ()) HC2.out (by omega) HCk.out.size ?_)
        intro v8 w8 h8 g8 l8
        have HV8 := Lib.hid h8
        have HV78 := Lib.hid (own_other HV7'.out g8 HAP.out)
        have HC8 := Lib.hid (under_own HCk.out HV6'.out (Nat.le_refl _) g8 HCk.out.size)
        have HX8 := Lib.hid (gt_append_lt HX6.out HR2.out.1)
        obtain ⟨T, hT⟩ : ∃ T, xored B 54 ++ t = T := ⟨_, rfl⟩
        rw [hT] at HV8 HX8
        have HTE := Lib.hid (fun _ : Unit => hT); clear hT h8 g8 l8 HV6 HV7 HV6' HV7' HR29 HAP
        obtain ⟨A8, c8, rfl, hA8, hnc8, hcm8, hrd8, hlen8, hblk8⟩ := own_slice HV8.out HX8.out
        have HRD8 := Lib.hid hrd8; have HLN8 := Lib.hid (fun _ : Unit => hlen8); have HA8 := Lib.hid hA8
        clear hrd8 hlen8 hA8 hblk8
        go_wp2_with fail
        refine (rsum_any A8 T (64 + n2) c8 w8 HRD8.out (HLN8.out ()) HA8.out (by omega)).mono ?_
        rintro e' w9 ⟨h9, c9, rfl, hown9, hB9⟩
        have HO9 := Lib.hid hown9; have HV79 := Lib.hid (own_gen HV78.out hB9); have HC9 := Lib.hid (HC8.out.trans (hB9.mono HC8.out.size))
        have HRS := Lib.hid (rd_of_own HO9.out (sum_lt T) (Nat.le_refl _))
        have HSL : Hid ((sum T).length = 32 ∧ ∀ i, gt (sum T) i < 256) := Lib.hid ⟨sum_len T, sum_lt T⟩
        obtain ⟨S, hS⟩ : ∃ S, sum T = S := ⟨_, rfl⟩
        rw [hS] at HRS HSL
        have HSE := Lib.hid (fun _ : Unit => hS); clear hS hown9 hB9 HO9 HV78 HV8 HC8
        go_wp2_with (at_builtin; refine wpList_append_loc rfl (.tmp 40) (.tmp 44) rfl Wk.heap.size 64 32 c9 w9.heap.size (.slice A7 64 c7) (xored B 92) S (some ⟨h9, 0, none⟩) rfl rfl HV79.out HRS.out HSL.out.1 (fun e => by cases e) (by omega) HC9.out.size ?_)
        intro v10 w10 h10 g10 l10
        have HV10 := Lib.hid h10
        have HC10 := Lib.hid (under_own HC9.out HV79.out (Nat.le_refl _) g10 HC9.out.size)
        have HX10 := Lib.hid (gt_append_lt HX7.out HSL.out.2)
        obtain ⟨U, hU⟩ : ∃ U, xored B 92 ++ S = U := ⟨_, rfl⟩
        rw [hU] at HV10 HX10
        have HUE := Lib.hid (fun _ : Unit => hU); clear hU h10 g10 l10 HV79 HRS
        obtain ⟨A10, c10, rfl, hA10, hnc10, hcm10, hrd10, hlen10, hblk10⟩ := own_slice HV10.out HX10.out
        have HRD10 := Lib.hid hrd10; have HLN10 := Lib.hid (fun _ : Unit => hlen10); have HA10 := Lib.hid hA10
        clear hrd10 hlen10 hA10 hblk10
        have HB10 := Lib.hid (HBk.out.trans (HC10.out.mono hsk))
        go_wp2_with fail
        refine (rsum_any A10 U (64 + 32) c10 w10 HRD10.out (HLN10.out ()) HA10.out (by omega)).mono ?_
        rintro e' w11 ⟨h11, c11, rfl, hown11, hB11⟩
        have HXE : Hid (Unit → sum U = X) := Lib.hid fun _ => by rw [← HX.out (), ← HUE.out (), ← HSE.out (), ← HTE.out (), ← HBB.out ()]; rfl
        rw [HXE.out ()] at hown11
        have HO11 := Lib.hid hown11; have HB11 := Lib.hid (HB10.out.trans (hB11.mono HB10.out.size)); clear hown11 hB11
        go_wp2
        go_ret
        exact ⟨h11, c11, rfl, own_lower HO11.out HB10.out.size, HB11.out⟩

end Go.Proofs.YtfcnhendebjjeaaDoor.Sha
