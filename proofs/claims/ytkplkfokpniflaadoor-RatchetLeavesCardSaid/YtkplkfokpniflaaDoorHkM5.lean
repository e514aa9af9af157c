/- The document's own: Mac, Extract. The document's own: Extract, Expand. The document's own: Label; all answers in one form. -/
import Derived.Test.YtkplkfokpniflaaDoorHkM4
import Derived.Test.YtkplkfokpniflaaDoorShaM3
import Derived.Test.YtkplkfokpniflaaDoorHkM2
namespace Go.Proofs.YtkplkfokpniflaaDoor.Sha
set_option linter.all false
open Go.RowKit Iter
attribute [local go_sem ↓] Go.wp_at_zero Go.wp_at_succ

/-- append onto a row of one's own, nil let in; where it lies behind -/
theorem wpList_append_loc {ops : Array Oper} {rest : List Oper} {o : Oper} {a : Act} {w : World} {Q : Exit → Act → World → Prop} (hgd : o.guard = none) (s x : Operand)
    (ho : o.op = .call { callee := .builtin .append, args := #[s, x], argTypes := #[22, 22] }) (base n m c B : Nat) (v : Value) (xs ys : List Nat) (A : Option Addr)
    (hs : a.eval s = v) (hx : a.eval x = .slice A m c)
    (hown : w.ownsRow base 5 1 v n (bcells xs)) (hR : Rd w B A ys) (hm : ys.length = m) (hc : A = none → c = 0) (hbd : n + m ≤ 1000000) (hbase : base ≤ w.heap.size)
    (k : ∀ v' w', w'.ownsRow base 5 1 v' (n + m) (bcells (xs ++ ys)) → w.grownBy w' v.ownBlock → (v'.ownBlock = v.ownBlock ∨ v'.ownBlock = some w.heap.size) → wpList Tryd.prog ops Q rest (a.put o.dst v') w') :
    wpList Tryd.prog ops Q (o :: rest) a w := by
  obtain ⟨i, hi, hz, hsz, hby⟩ := byteInfo
  have key : ∃ v' w', (Builtin.append_ #[22, 22] o.type #[v, .slice A m c]).run Tryd.prog w = .ok v' w' ∧ w'.ownsRow base 5 1 v' (n + m) (bcells (xs ++ ys)) ∧ w.grownBy w' v.ownBlock ∧ (v'.ownBlock = v.ownBlock ∨ v'.ownBlock = some w.heap.size) := by
    cases A with
    | none =>
      have h0 : m = 0 := by
        rcases Nat.eq_zero_or_pos m with h | h
        · exact h
        · obtain ⟨ad, e, _⟩ := hR.2 (by omega)
          cases e
      have hy : ys = [] := List.eq_nil_of_length_eq_zero (by omega)
      have hc0 := hc rfl
      subst h0 hy hc0
      exact ⟨v, w, run_append_owned_none (P := Tryd.prog) (w := w) base 22 o.type 5 i 1 Tryd.underlying22 hi _ n (bcells xs) hown, by simpa using hown, World.grownBy.refl _ _, .inl rfl⟩
    | some ad =>
      obtain ⟨v', w', hrun, h1, h2, _, h4⟩ := run_append_own_at (P := Tryd.prog) w base 22 o.type 5 i (.int .u8 0) 1 1 Tryd.underlying22 hi hz hsz hby rfl (by omega) _ n (bcells xs) hown ad m c (bcells ys) (by rw [bcells_len]; omega)
        (news_of_rd hR) (bcells_one ys) (by unfold maxLen; omega) (by omega) hbase
      rw [← bcells_append] at h1
      exact ⟨v', w', hrun, h1, h2, h4⟩
  obtain ⟨v', w', hrun, h1, h2, h3⟩ := key
  refine wpList_plain hgd fun K hK => ?_
  unfold Oper.wp execOp
  simp only [ho, resolve, invoke, builtin, Sem.run_bind, Sem.run_pure, Result.andThen_ok, List.map_toArray, List.map_cons, List.map_nil, hs, hx, hrun]
  exact hK _ _ (k v' w' h1 h2 h3)
theorem own_lt {w : World} {base n g : Nat} {v : Value} {xs : List Value} (h : w.ownsRow base 5 1 v n xs) (e : v.ownBlock = some g) : base ≤ g ∧ g < w.heap.size := by
  rcases h.2 with ⟨e1, _⟩ | ⟨g', c, cur, e1, hb, hc, _⟩
  · rw [e1] at e; cases e
  · rw [e1] at e
    have e2 : g' = g := Option.some.inj e
    subst e2
    exact ⟨hb, (Array.getElem?_eq_some_iff.1 hc).1⟩
theorem own_other {w w' : World} {base n : Nat} {v v6 : Value} {xs : List Value} (h : w.ownsRow base 5 1 v n xs) (hg : w.grownBy w' v6.ownBlock) (hne : ∀ g, v.ownBlock = some g → v6.ownBlock ≠ some g) : w'.ownsRow base 5 1 v n xs := by
  refine h.kept hg ?_
  cases hq : v.ownBlock with
  | none => exact .inl rfl
  | some g => exact .inr (fun e => hne g hq e.symm)
theorem apart_one {v6 v7 v6' : Value} {s s' : Nat} (h : ∀ g, v7.ownBlock = some g → v6.ownBlock ≠ some g) (hl : ∀ g, v7.ownBlock = some g → g < s) (hs : s ≤ s') (l : v6'.ownBlock = v6.ownBlock ∨ v6'.ownBlock = some s') : ∀ g, v7.ownBlock = some g → v6'.ownBlock ≠ some g := by
  intro g e e'
  rcases l with l | l
  · exact h g e (l ▸ e')
  · rw [l] at e'
    have := Option.some.inj e'
    have := hl g e
    omega
theorem apart_two {v6 v7 v7' : Value} {s s' : Nat} (h : ∀ g, v7.ownBlock = some g → v6.ownBlock ≠ some g) (hl : ∀ g, v6.ownBlock = some g → g < s) (hs : s ≤ s') (l : v7'.ownBlock = v7.ownBlock ∨ v7'.ownBlock = some s') : ∀ g, v7'.ownBlock = some g → v6.ownBlock ≠ some g := by
  intro g e e'
  rcases l with l | l
  · exact h g (l ▸ e) e'
  · rw [l] at e
    have := Option.some.inj e
    have := hl g e'
    omega
theorem tab_succ (n : Nat) (g : Nat → Nat) : tab (n + 1) g = tab n g ++ [g n] := by
  unfold tab; rw [List.range_succ, List.map_append]; rfl
/-- the first j bytes of a block, each unlike a mark -/
def unlike (b : List Nat) (m j : Nat) : List Nat := tab j fun i => gt b i ^^^ m
theorem unlike_all (b : List Nat) (m : Nat) : unlike b m 64 = xored b m := by
  refine ext_gt (tab_len _ _) (tab_len _ _) fun i hi => ?_
  unfold unlike xored xorTo
  rw [gt_tab _ _ _ hi, gt_tab _ _ _ hi, if_pos hi]
theorem unlike_lt {b : List Nat} (hb : ∀ i, gt b i < 256) {m : Nat} (hm : m < 256) (j : Nat) : ∀ i, gt (unlike b m j) i < 256 := by
  intro i
  by_cases h : i < j
  · unfold unlike; rw [gt_tab _ _ _ h]; exact xor256 (hb i) hm
  · rw [gt_ge _ _ (by unfold unlike; rw [tab_len]; omega)]; omega
theorem gt_block {key : List Nat} {i : Nat} (h : i < 64) : gt (blockK key) i = gt (keyed key) i := gt_tab _ _ _ h

set_option maxHeartbeats 4000000 in
set_option maxRecDepth 100000 in
/-- behind the key's own copy: the two rows, and the sums -/
theorem rmac_wide (A A2 : Option Addr) (key t : List Nat) (n c n2 c2 : Nat) (w : World) (hR : Rd w w.heap.size A key) (hn : key.length = n) (hc : A = none → c = 0) (hm : n ≤ 20000)
    (hR2 : Rd w w.heap.size A2 t) (hn2 : t.length = n2) (hc2 : A2 = none → c2 = 0) (hm2 : n2 ≤ 90000) :
    Calls Tryd.prog 53 #[.slice A n c, .slice A2 n2 c2] w (Summed w (mac key t)) := by
  have HR := Lib.hid hR; have HN := Lib.hid (fun _ : Unit => hn); have HC := Lib.hid hc; have HR2 := Lib.hid hR2; have HN2 := Lib.hid (fun _ : Unit => hn2); have HC2 := Lib.hid hc2
  clear hR hn hc hR2 hn2 hc2
  obtain ⟨X, hX⟩ : ∃ X, mac key t = X := ⟨_, rfl⟩
  rw [hX]
  have HX := Lib.hid (fun _ : Unit => hX); clear hX
  have HNIL := Lib.hid (nil_own w (base := w.heap.size) (Nat.le_refl _))
  have HB0 := Lib.hid ((Below.refl w.heap.size w).alloc (Nat.le_refl _) (.cells #[] 5))
  have HR0 := Lib.hid (HR.out.below HB0.out)
  go_enter Tryd.func53, Tryd.ntmps53
  go_wp2_with (at_builtin; refine wpList_append_rd rfl (.tmp 10) (.tmp 11) rfl w.heap.size w.heap.size 0 0 n c w.heap.size [] key A rfl rfl HNIL.out HR0.out (HN.out ()) HC.out (by omega) (by simp) ?_)
  intro g1 cap1 w1 hown hgrow hat
  try simp only [Nat.zero_add, List.nil_append] at hown
  have HO1 := Lib.hid hown; have HB1 := Lib.hid (below_of_only HB0.out hgrow (Nat.le_refl _))
  clear hown hgrow hat HNIL HB0 HR0
  have hs1 := HB1.out.size
  have HKY := Lib.hid (keyed_lt HR.out.1)
  by_cases h64 : 64 < n
  · have y0 : (64 : Int) < (n : Int) := by omega
    have HKE : Hid (Unit → keyed key = sum key) := Lib.hid fun _ => by unfold keyed; rw [if_pos (by rw [HN.out ()]; exact h64)]
    have hcp := own_cap HO1.out
    unfold maxLen at hcp
    go_wp2_with fail
    refine (rsum_any (some ⟨g1, 0, none⟩) key n cap1 w1 (rd_of_own HO1.out HR.out.1 (Nat.le_refl _)) (HN.out ()) (fun e => by cases e) (by omega)).mono ?_
    rintro e' Wk ⟨gk, capk, rfl, hown2, hB2⟩
    have HBk := Lib.hid (HB1.out.trans (hB2.mono hs1))
    have HKn : Hid ((sum key).length = 32) := Lib.hid (sum_len key)
    have HKl : Hid (∀ i, gt (sum key) i < 256) := Lib.hid (sum_lt key)
    obtain ⟨K, hK⟩ : ∃ K, sum key = K := ⟨_, rfl⟩
    rw [hK] at hown2 HKn HKl HKE
    clear hK hB2 HO1 HB1
    obtain ⟨nk, hnk⟩ : ∃ nk, 32 = nk := ⟨_, rfl⟩
    have HOk := Lib.hid hown2
    clear hown2
    rw [hnk] at HKn HOk ⊢
    have hnk64 : nk ≤ 64 := by omega
    clear hnk
    go_wp2_with fail
    have hsk := HBk.out.size
    obtain ⟨B, hB⟩ : ∃ B, blockK key = B := ⟨_, rfl⟩
    have HBB := Lib.hid (fun _ : Unit => hB)
    have HBl : Hid (∀ i, gt B i < 256) := Lib.hid (by rw [← hB]; exact (ok_blockK HR.out.1).2)
    have HBg : Hid (∀ i, i < 64 → gt B i = gt K i) := Lib.hid (by rw [← hB]; exact fun i hi => by rw [gt_block hi, HKE.out ()])
    clear hB
    go_loopw [6, 7, 8] (fun v6 v7 i W => ∃ (j c6 c7 : Nat) (A6 A7 : Option Addr), j ≤ 64 ∧ i = .int .i64 j ∧ v6 = .slice A6 j c6 ∧ v7 = .slice A7 j c7 ∧ Hid (W.ownsRow Wk.heap.size 5 1 (.slice A6 j c6) j (bcells (unlike B 54 j))) ∧ Hid (W.ownsRow Wk.heap.size 5 1 (.slice A7 j c7) j (bcells (unlike B 92 j))) ∧ Hid (∀ g, (Value.slice A7 j c7).ownBlock = some g → (Value.slice A6 j c6).ownBlock ≠ some g) ∧ Hid (Below Wk.heap.size Wk W)) (fun _ _ i _ => 64 - (intOf i).toNat)
    case atStart => exact ⟨0, 0, 0, none, none, by omega, rfl, rfl, rfl, Lib.hid ⟨rfl, .inl ⟨rfl, rfl⟩⟩, Lib.hid ⟨rfl, .inl ⟨rfl, rfl⟩⟩, Lib.hid (fun g e => by cases e), Lib.hid (Below.refl _ _)⟩
    case round =>
      obtain ⟨j, c6, c7, A6, A7, hj, rfl, rfl, rfl, HV6, HV7, HAP, HCk⟩ := hrel
      by_cases hj64 : j < 64
      · have yj : (j : Int) < 64 := by omega
        obtain ⟨x, hxe⟩ : ∃ x, gt K j = x := ⟨_, rfl⟩
        have hx256 : x < 256 := by rw [← hxe]; exact HKl.out j
        have HU54 : Hid (Unit → unlike B 54 j ++ [x ^^^ 54] = unlike B 54 (j + 1)) := Lib.hid fun _ => by unfold unlike; rw [tab_succ, HBg.out j hj64, hxe]
        have HU92 : Hid (Unit → unlike B 92 j ++ [x ^^^ 92] = unlike B 92 (j + 1)) := Lib.hid fun _ => by unfold unlike; rw [tab_succ, HBg.out j hj64, hxe]
        by_cases hjk : j < nk
        · have yk : (j : Int) < (nk : Int) := by omega
          have c0 : wr.cell? ⟨gk, j, none⟩ = some (.int .u8 (x : Nat)) := by
            rw [(own_below HOk.out HCk.out (Nat.le_refl _)).cellAt j (by omega), bcells_at K j (by rw [HKn.out]; exact hjk), hxe]
          have e54 : bits .xor .u8 (x : Int) 54 = ((x ^^^ 54 : Nat) : Int) := xor_bits8 hx256 (by omega : 54 < 256)
          have e92 : bits .xor .u8 (x : Int) 92 = ((x ^^^ 92 : Nat) : Int) := xor_bits8 hx256 (by omega : 92 < 256)
          have HBy := Lib.hid (byte_rd wr ((x ^^^ 54 : Nat) : Int) (x ^^^ 54) rfl (xor256 hx256 (by omega)) (B := wr.heap.size + 1) (by omega))
          have HA := Lib.hid ((Below.refl wr.heap.size wr).alloc (Nat.le_refl _) (.cells #[.int .u8 ((x ^^^ 54 : Nat) : Int)] 5))
          have HV6a := Lib.hid (own_gen HV6.out HA.out)
          have HV7a := Lib.hid (own_gen HV7.out HA.out)
          have HCa := Lib.hid (HCk.out.alloc HCk.out.size (.cells #[.int .u8 ((x ^^^ 54 : Nat) : Int)] 5))
          go_wp2_with (at_builtin; refine wpList_append_loc rfl (.tmp 30) (.tmp 33) rfl Wk.heap.size j 1 1 (wr.heap.size + 1) (.slice A6 j c6) (unlike B 54 j) [x ^^^ 54] (some ⟨wr.heap.size, 0, none⟩) rfl rfl HV6a.out HBy.out rfl (fun e => by cases e) (by omega) (by have := HCk.out.size; simp; omega) ?_)
          intro v6' w5 h1 g1w l1
          rw [HU54.out ()] at h1
          have HV65 := Lib.hid h1
          have HV75 := Lib.hid (own_other HV7a.out g1w HAP.out)
          have HC5 := Lib.hid (under_own HCa.out HV6a.out (Nat.le_refl _) g1w (by have := HCk.out.size; simp; omega))
          have HAP5 : Hid (∀ g, (Value.slice A7 j c7).ownBlock = some g → v6'.ownBlock ≠ some g) := Lib.hid (apart_one HAP.out (fun g e => (own_lt HV7.out e).2) (by simp) l1)
          clear h1 g1w l1 HV6a HV7a HCa HA HBy
          obtain ⟨A6', c6', rfl, -, -, -, -, -, -⟩ := own_slice HV65.out (unlike_lt HBl.out (by omega) (j + 1))
          have HBy := Lib.hid (byte_rd w5 ((x ^^^ 92 : Nat) : Int) (x ^^^ 92) rfl (xor256 hx256 (by omega)) (B := w5.heap.size + 1) (by omega))
          have HA := Lib.hid ((Below.refl w5.heap.size w5).alloc (Nat.le_refl _) (.cells #[.int .u8 ((x ^^^ 92 : Nat) : Int)] 5))
          have HV6b := Lib.hid (own_gen HV65.out HA.out)
          have HV7b := Lib.hid (own_gen HV75.out HA.out)
          have HCb := Lib.hid (HC5.out.alloc HC5.out.size (.cells #[.int .u8 ((x ^^^ 92 : Nat) : Int)] 5))
          go_wp2_with (at_builtin; refine wpList_append_loc rfl (.tmp 35) (.tmp 38) rfl Wk.heap.size j 1 1 (w5.heap.size + 1) (.slice A7 j c7) (unlike B 92 j) [x ^^^ 92] (some ⟨w5.heap.size, 0, none⟩) rfl rfl HV7b.out HBy.out rfl (fun e => by cases e) (by omega) (by have := HC5.out.size; simp; omega) ?_)
          intro v7' w6 h1 g1w l1
          rw [HU92.out ()] at h1
          have HV76 := Lib.hid h1
          have HV66 := Lib.hid (own_other HV6b.out g1w fun g e e' => HAP5.out g e' e)
          have HC6 := Lib.hid (under_own HCb.out HV7b.out (Nat.le_refl _) g1w (by have := HC5.out.size; simp; omega))
          have HAP6 : Hid (∀ g, v7'.ownBlock = some g → (Value.slice A6' (j + 1) c6').ownBlock ≠ some g) := Lib.hid (apart_two HAP5.out (fun g e => (own_lt HV65.out e).2) (by simp) l1)
          clear h1 g1w l1 HV6b HV7b HCb HA HBy
          obtain ⟨A7', c7', rfl, -, -, -, -, -, -⟩ := own_slice HV76.out (unlike_lt HBl.out (by omega) (j + 1))
          go_wp2
          go_roundw
          case rel => exact ⟨j + 1, c6', c7', A6', A7', by omega, by go_num, rfl, rfl, HV66, HV76, HAP6, HC6⟩
          case measure => simp [intOf]; omega
        · have yk : ¬ (j : Int) < (nk : Int) := by omega
          have hx0 : x = 0 := by rw [← hxe]; exact gt_ge _ _ (by rw [HKn.out]; omega)
          have E54 : Hid (Unit → (54 : Int) = ((x ^^^ 54 : Nat) : Int)) := Lib.hid fun _ => by rw [hx0, Nat.zero_xor]; rfl
          have E92 : Hid (Unit → (92 : Int) = ((x ^^^ 92 : Nat) : Int)) := Lib.hid fun _ => by rw [hx0, Nat.zero_xor]; rfl
          have e54 : bits .xor .u8 (0 : Int) 54 = (54 : Int) := rfl
          have e92 : bits .xor .u8 (0 : Int) 92 = (92 : Int) := rfl
          clear hx0
          have HBy := Lib.hid (byte_rd wr (54 : Int) (x ^^^ 54) (E54.out ()) (xor256 hx256 (by omega)) (B := wr.heap.size + 1) (by omega))
          have HA := Lib.hid ((Below.refl wr.heap.size wr).alloc (Nat.le_refl _) (.cells #[.int .u8 (54 : Int)] 5))
          have HV6a := Lib.hid (own_gen HV6.out HA.out)
          have HV7a := Lib.hid (own_gen HV7.out HA.out)
          have HCa := Lib.hid (HCk.out.alloc HCk.out.size (.cells #[.int .u8 (54 : Int)] 5))
          go_wp2_with (at_builtin; refine wpList_append_loc rfl (.tmp 30) (.tmp 33) rfl Wk.heap.size j 1 1 (wr.heap.size + 1) (.slice A6 j c6) (unlike B 54 j) [x ^^^ 54] (some ⟨wr.heap.size, 0, none⟩) rfl rfl HV6a.out HBy.out rfl (fun e => by cases e) (by omega) (by have := HCk.out.size; simp; omega) ?_)
          intro v6' w5 h1 g1w l1
          rw [HU54.out ()] at h1
          have HV65 := Lib.hid h1
          have HV75 := Lib.hid (own_other HV7a.out g1w HAP.out)
          have HC5 := Lib.hid (under_own HCa.out HV6a.out (Nat.le_refl _) g1w (by have := HCk.out.size; simp; omega))
          have HAP5 : Hid (∀ g, (Value.slice A7 j c7).ownBlock = some g → v6'.ownBlock ≠ some g) := Lib.hid (apart_one HAP.out (fun g e => (own_lt HV7.out e).2) (by simp) l1)
          clear h1 g1w l1 HV6a HV7a HCa HA HBy
          obtain ⟨A6', c6', rfl, -, -, -, -, -, -⟩ := own_slice HV65.out (unlike_lt HBl.out (by omega) (j + 1))
          have HBy := Lib.hid (byte_rd w5 (92 : Int) (x ^^^ 92) (E92.out ()) (xor256 hx256 (by omega)) (B := w5.heap.size + 1) (by omega))
          have HA := Lib.hid ((Below.refl w5.heap.size w5).alloc (Nat.le_refl _) (.cells #[.int .u8 (92 : Int)] 5))
          have HV6b := Lib.hid (own_gen HV65.out HA.out)
          have HV7b := Lib.hid (own_gen HV75.out HA.out)
          have HCb := Lib.hid (HC5.out.alloc HC5.out.size (.cells #[.int .u8 (92 : Int)] 5))
          go_wp2_with (at_builtin; refine wpList_append_loc rfl (.tmp 35) (.tmp 38) rfl Wk.heap.size j 1 1 (w5.heap.size + 1) (.slice A7 j c7) (unlike B 92 j) [x ^^^ 92] (some ⟨w5.heap.size, 0, none⟩) rfl rfl HV7b.out HBy.out rfl (fun e => by cases e) (by omega) (by have := HC5.out.size; simp; omega) ?_)
          intro v7' w6 h1 g1w l1
          rw [HU92.out ()] at h1
          have HV76 := Lib.hid h1
          have HV66 := Lib.hid (own_other HV6b.out g1w fun g e e' => HAP5.out g e' e)
          have HC6 := Lib.hid (under_own HCb.out HV7b.out (Nat.le_refl _) g1w (by have := HC5.out.size; simp; omega))
          have HAP6 : Hid (∀ g, v7'.ownBlock = some g → (Value.slice A6' (j + 1) c6').ownBlock ≠ some g) := Lib.hid (apart_two HAP5.out (fun g e => (own_lt HV65.out e).2) (by simp) l1)
          clear h1 g1w l1 HV6b HV7b HCb HA HBy
          obtain ⟨A7', c7', rfl, -, -, -, -, -, -⟩ := own_slice HV76.out (unlike_lt HBl.out (by omega) (j + 1))
          go_wp2
          go_roundw
          case rel => exact ⟨j + 1, c6', c7', A6', A7', by omega, by go_num, rfl, rfl, HV66, HV76, HAP6, HC6⟩
          case measure => simp [intOf]; omega
      · obtain rfl : j = 64 := by omega
        have HBw := Lib.hid (HBk.out.trans (HCk.out.mono hsk))
        have HV6' := Lib.hid HV6.out; have HV7' := Lib.hid HV7.out
        rw [unlike_all] at HV6' HV7'
        have HX6 : Hid (∀ i, gt (xored B 54) i < 256) := Lib.hid (by rw [← unlike_all]; exact unlike_lt HBl.out (by omega) 64)
        have HX7 : Hid (∀ i, gt (xored B 92) i < 256) := Lib.hid (by rw [← unlike_all]; exact unlike_lt HBl.out (by omega) 64)
        have HR29 := Lib.hid (HR2.out.below HBw.out)
        go_wp2_with (at_builtin; refine wpList_append_loc rfl (.tmp 41) (.tmp 42) rfl Wk.heap.size 64 n2 c2 w.heap.size (.slice A6 64 c6) (xored B 54) t A2 rfl rfl HV6'.out HR29.out (HN2.out ()) HC2.out (by omega) HCk.out.size ?_)
        intro v8 w8 h8 g8 l8
        have HV8 := Lib.hid h8
        have HV78 := Lib.hid (own_other HV7'.out g8 HAP.out)
        have HC8 := Lib.hid (under_own HCk.out HV6'.out (Nat.le_refl _) g8 HCk.out.size)
        have HX8 := Lib.hid (gt_append_lt HX6.out HR2.out.1)
        obtain ⟨T, hT⟩ : ∃ T, xored B 54 ++ t = T := ⟨_, rfl⟩
        rw [hT] at HV8 HX8
        have HTE := Lib.hid (fun _ : Unit => hT); clear hT h8 g8 l8 HV6 HV7 HV6' HV7' HR29 HAP
        obtain ⟨A8, c8, rfl, hA8, hnc8, hcm8, hrd8, hlen8, hblk8⟩ := own_slice HV8.out HX8.out
        have HRD8 := Lib.hid hrd8; have HLN8 := Lib.hid (fun _ : Unit => hlen8); have HA8 := Lib.hid hA8
        clear hrd8 hlen8 hA8 hblk8
        go_wp2_with fail
        refine (rsum_any A8 T (64 + n2) c8 w8 HRD8.out (HLN8.out ()) HA8.out (by omega)).mono ?_
        rintro e' w9 ⟨h9, c9, rfl, hown9, hB9⟩
        have HO9 := Lib.hid hown9; have HV79 := Lib.hid (own_gen HV78.out hB9); have HC9 := Lib.hid (HC8.out.trans (hB9.mono HC8.out.size))
        have HRS := Lib.hid (rd_of_own HO9.out (sum_lt T) (Nat.le_refl _))
        have HSL : Hid ((sum T).length = 32 ∧ ∀ i, gt (sum T) i < 256) := Lib.hid ⟨sum_len T, sum_lt T⟩
        obtain ⟨S, hS⟩ : ∃ S, sum T = S := ⟨_, rfl⟩
        rw [hS] at HRS HSL
        have HSE := Lib.hid (fun _ : Unit => hS); clear hS hown9 hB9 HO9 HV78 HV8 HC8
        go_wp2_with (at_builtin; refine wpList_append_loc rfl (.tmp 40) (.tmp 44) rfl Wk.heap.size 64 32 c9 w9.heap.size (.slice A7 64 c7) (xored B 92) S (some ⟨h9, 0, none⟩) rfl rfl HV79.out HRS.out HSL.out.1 (fun e => by cases e) (by omega) HC9.out.size ?_)
        intro v10 w10 h10 g10 l10
        have HV10 := Lib.hid h10
        have HC10 := Lib.hid (under_own HC9.out HV79.out (Nat.le_refl _) g10 HC9.out.size)
        have HX10 := Lib.hid (gt_append_lt HX7.out HSL.out.2)
        obtain ⟨U, hU⟩ : ∃ U, xored B 92 ++ S = U := ⟨_, rfl⟩
        rw [hU] at HV10 HX10
        have HUE := Lib.hid (fun _ : Unit => hU); clear hU h10 g10 l10 HV79 HRS
        obtain ⟨A10, c10, rfl, hA10, hnc10, hcm10, hrd10, hlen10, hblk10⟩ := own_slice HV10.out HX10.out
        have HRD10 := Lib.hid hrd10; have HLN10 := Lib.hid (fun _ : Unit => hlen10); have HA10 := Lib.hid hA10
        clear hrd10 hlen10 hA10 hblk10
        have HB10 := Lib.hid (HBk.out.trans (HC10.out.mono hsk))
        go_wp2_with fail
        refine (rsum_any A10 U (64 + 32) c10 w10 HRD10.out (HLN10.out ()) HA10.out (by omega)).mono ?_
        rintro e' w11 ⟨h11, c11, rfl, hown11, hB11⟩
        have HXE : Hid (Unit → sum U = X) := Lib.hid fun _ => by rw [← HX.out (), ← HUE.out (), ← HSE.out (), ← HTE.out (), ← HBB.out ()]; rfl
        rw [HXE.out ()] at hown11
        have HO11 := Lib.hid hown11; have HB11 := Lib.hid (HB10.out.trans (hB11.mono HB10.out.size)); clear hown11 hB11
        go_wp2
        go_ret
        exact ⟨h11, c11, rfl, own_lower HO11.out HB10.out.size, HB11.out⟩
  · have y0 : ¬ (64 : Int) < (n : Int) := by omega
    have HKE : Hid (Unit → keyed key = key) := Lib.hid fun _ => by unfold keyed; rw [if_neg (by rw [HN.out ()]; exact h64)]
    obtain ⟨Wk, rfl⟩ : ∃ Wk, Wk = w1 := ⟨_, rfl⟩
    obtain ⟨gk, rfl⟩ : ∃ gk, gk = g1 := ⟨_, rfl⟩
    obtain ⟨capk, rfl⟩ : ∃ capk, capk = cap1 := ⟨_, rfl⟩
    obtain ⟨nk, rfl⟩ : ∃ nk, nk = n := ⟨_, rfl⟩
    obtain ⟨K, rfl⟩ : ∃ K, K = key := ⟨_, rfl⟩
    have HBk := Lib.hid HB1.out
    have HKn : Hid (K.length = nk) := Lib.hid (HN.out ())
    have HKl : Hid (∀ i, gt K i < 256) := Lib.hid HR.out.1
    have hnk64 : nk ≤ 64 := by omega
    have HOk := Lib.hid HO1.out
    go_wp2_with fail
    have hsk := HBk.out.size
    obtain ⟨B, hB⟩ : ∃ B, blockK K = B := ⟨_, rfl⟩
    have HBB := Lib.hid (fun _ : Unit => hB)
    have HBl : Hid (∀ i, gt B i < 256) := Lib.hid (by rw [← hB]; exact (ok_blockK HR.out.1).2)
    have HBg : Hid (∀ i, i < 64 → gt B i = gt K i) := Lib.hid (by rw [← hB]; exact fun i hi => by rw [gt_block hi, HKE.out ()])
    clear hB
    go_loopw [6, 7, 8] (fun v6 v7 i W => ∃ (j c6 c7 : Nat) (A6 A7 : Option Addr), j ≤ 64 ∧ i = .int .i64 j ∧ v6 = .slice A6 j c6 ∧ v7 = .slice A7 j c7 ∧ Hid (W.ownsRow Wk.heap.size 5 1 (.slice A6 j c6) j (bcells (unlike B 54 j))) ∧ Hid (W.ownsRow Wk.heap.size 5 1 (.slice A7 j c7) j (bcells (unlike B 92 j))) ∧ Hid (∀ g, (Value.slice A7 j c7).ownBlock = some g → (Value.slice A6 j c6).ownBlock ≠ some g) ∧ Hid (Below Wk.heap.size Wk W)) (fun _ _ i _ => 64 - (intOf i).toNat)
    case atStart => exact ⟨0, 0, 0, none, none, by omega, rfl, rfl, rfl, Lib.hid ⟨rfl, .inl ⟨rfl, rfl⟩⟩, Lib.hid ⟨rfl, .inl ⟨rfl, rfl⟩⟩, Lib.hid (fun g e => by cases e), Lib.hid (Below.refl _ _)⟩
    case round =>
      obtain ⟨j, c6, c7, A6, A7, hj, rfl, rfl, rfl, HV6, HV7, HAP, HCk⟩ := hrel
      by_cases hj64 : j < 64
      · have yj : (j : Int) < 64 := by omega
        obtain ⟨x, hxe⟩ : ∃ x, gt K j = x := ⟨_, rfl⟩
        have hx256 : x < 256 := by rw [← hxe]; exact HKl.out j
        have HU54 : Hid (Unit → unlike B 54 j ++ [x ^^^ 54] = unlike B 54 (j + 1)) := Lib.hid fun _ => by unfold unlike; rw [tab_succ, HBg.out j hj64, hxe]
        have HU92 : Hid (Unit → unlike B 92 j ++ [x ^^^ 92] = unlike B 92 (j + 1)) := Lib.hid fun _ => by unfold unlike; rw [tab_succ, HBg.out j hj64, hxe]
        by_cases hjk : j < nk
        · have yk : (j : Int) < (nk : Int) := by omega
          have c0 : wr.cell? ⟨gk, j, none⟩ = some (.int .u8 (x : Nat)) := by
            rw [(own_below HOk.out HCk.out (Nat.le_refl _)).cellAt j (by omega), bcells_at K j (by rw [HKn.out]; exact hjk), hxe]
          have e54 : bits .xor .u8 (x : Int) 54 = ((x ^^^ 54 : Nat) : Int) := xor_bits8 hx256 (by omega : 54 < 256)
          have e92 : bits .xor .u8 (x : Int) 92 = ((x ^^^ 92 : Nat) : Int) := xor_bits8 hx256 (by omega : 92 < 256)
          have HBy := Lib.hid (byte_rd wr ((x ^^^ 54 : Nat) : Int) (x ^^^ 54) rfl (xor256 hx256 (by omega)) (B := wr.heap.size + 1) (by omega))
          have HA := Lib.hid ((Below.refl wr.heap.size wr).alloc (Nat.le_refl _) (.cells #[.int .u8 ((x ^^^ 54 : Nat) : Int)] 5))
          have HV6a := Lib.hid (own_gen HV6.out HA.out)
          have HV7a := Lib.hid (own_gen HV7.out HA.out)
          have HCa := Lib.hid (HCk.out.alloc HCk.out.size (.cells #[.int .u8 ((x ^^^ 54 : Nat) : Int)] 5))
          go_wp2_with (at_builtin; refine wpList_append_loc rfl (.tmp 30) (.tmp 33) rfl Wk.heap.size j 1 1 (wr.heap.size + 1) (.slice A6 j c6) (unlike B 54 j) [x ^^^ 54] (some ⟨wr.heap.size, 0, none⟩) rfl rfl HV6a.out HBy.out rfl (fun e => by cases e) (by omega) (by have := HCk.out.size; simp; omega) ?_)
          intro v6' w5 h1 g1w l1
          rw [HU54.out ()] at h1
          have HV65 := Lib.hid h1
          have HV75 := Lib.hid (own_other HV7a.out g1w HAP.out)
          have HC5 := Lib.hid (under_own HCa.out HV6a.out (Nat.le_refl _) g1w (by have := HCk.out.size; simp; omega))
          have HAP5 : Hid (∀ g, (Value.slice A7 j c7).ownBlock = some g → v6'.ownBlock ≠ some g) := Lib.hid (apart_one HAP.out (fun g e => (own_lt HV7.out e).2) (by simp) l1)
          clear h1 g1w l1 HV6a HV7a HCa HA HBy
          obtain ⟨A6', c6', rfl, -, -, -, -, -, -⟩ := own_slice HV65.out (unlike_lt HBl.out (by omega) (j + 1))
          have HBy := Lib.hid (byte_rd w5 ((x ^^^ 92 : Nat) : Int) (x ^^^ 92) rfl (xor256 hx256 (by omega)) (B := w5.heap.size + 1) (by omega))
          have HA := Lib.hid ((Below.refl w5.heap.size w5).alloc (Nat.le_refl _) (.cells #[.int .u8 ((x ^^^ 92 : Nat) : Int)] 5))
          have HV6b := Lib.hid (own_gen HV65.out HA.out)
          have HV7b := Lib.hid (own_gen HV75.out HA.out)
          have HCb := Lib.hid (HC5.out.alloc HC5.out.size (.cells #[.int .u8 ((x ^^^ 92 : Nat) : Int)] 5))
          go_wp2_with (at_builtin; refine wpList_append_loc rfl (.tmp 35) (.tmp 38) rfl Wk.heap.size j 1 1 (w5.heap.size + 1) (.slice A7 j c7) (unlike B 92 j) [x ^^^ 92] (some ⟨w5.heap.size, 0, none⟩) rfl rfl HV7b.out HBy.out rfl (fun e => by cases e) (by omega) (by have := HC5.out.size; simp; omega) ?_)
          intro v7' w6 h1 g1w l1
          rw [HU92.out ()] at h1
          have HV76 := Lib.hid h1
          have HV66 := Lib.hid (own_other HV6b.out g1w fun g e e' => HAP5.out g e' e)
          have HC6 := Lib.hid (under_own HCb.out HV7b.out (Nat.le_refl _) g1w (by have := HC5.out.size; simp; omega))
          have HAP6 : Hid (∀ g, v7'.ownBlock = some g → (Value.slice A6' (j + 1) c6').ownBlock ≠ some g) := Lib.hid (apart_two HAP5.out (fun g e => (own_lt HV65.out e).2) (by simp) l1)
          clear h1 g1w l1 HV6b HV7b HCb HA HBy
          obtain ⟨A7', c7', rfl, -, -, -, -, -, -⟩ := own_slice HV76.out (unlike_lt HBl.out (by omega) (j + 1))
          go_wp2
          go_roundw
          case rel => exact ⟨j + 1, c6', c7', A6', A7', by omega, by go_num, rfl, rfl, HV66, HV76, HAP6, HC6⟩
          case measure => simp [intOf]; omega
        · have yk : ¬ (j : Int) < (nk : Int) := by omega
          have hx0 : x = 0 := by rw [← hxe]; exact gt_ge _ _ (by rw [HKn.out]; omega)
          have E54 : Hid (Unit → (54 : Int) = ((x ^^^ 54 : Nat) : Int)) := Lib.hid fun _ => by rw [hx0, Nat.zero_xor]; rfl
          have E92 : Hid (Unit → (92 : Int) = ((x ^^^ 92 : Nat) : Int)) := Lib.hid fun _ => by rw [hx0, Nat.zero_xor]; rfl
          have e54 : bits .xor .u8 (0 : Int) 54 = (54 : Int) := rfl
          have e92 : bits .xor .u8 (0 : Int) 92 = (92 : Int) := rfl
          clear hx0
          have HBy := Lib.hid (byte_rd wr (54 : Int) (x ^^^ 54) (E54.out ()) (xor256 hx256 (by omega)) (B := wr.heap.size + 1) (by omega))
          have HA := Lib.hid ((Below.refl wr.heap.size wr).alloc (Nat.le_refl _) (.cells #[.int .u8 (54 : Int)] 5))
          have HV6a := Lib.hid (own_gen HV6.out HA.out)
          have HV7a := Lib.hid (own_gen HV7.out HA.out)
          have HCa := Lib.hid (HCk.out.alloc HCk.out.size (.cells #[.int .u8 (54 : Int)] 5))
          go_wp2_with (at_builtin; refine wpList_append_loc rfl (.tmp 30) (.tmp 33) rfl Wk.heap.size j 1 1 (wr.heap.size + 1) (.slice A6 j c6) (unlike B 54 j) [x ^^^ 54] (some ⟨wr.heap.size, 0, none⟩) rfl rfl HV6a.out HBy.out rfl (fun e => by cases e) (by omega) (by have := HCk.out.size; simp; omega) ?_)
          intro v6' w5 h1 g1w l1
          rw [HU54.out ()] at h1
          have HV65 := Lib.hid h1
          have HV75 := Lib.hid (own_other HV7a.out g1w HAP.out)
          have HC5 := Lib.hid (under_own HCa.out HV6a.out (Nat.le_refl _) g1w (by have := HCk.out.size; simp; omega))
          have HAP5 : Hid (∀ g, (Value.slice A7 j c7).ownBlock = some g → v6'.ownBlock ≠ some g) := Lib.hid (apart_one HAP.out (fun g e => (own_lt HV7.out e).2) (by simp) l1)
          clear h1 g1w l1 HV6a HV7a HCa HA HBy
          obtain ⟨A6', c6', rfl, -, -, -, -, -, -⟩ := own_slice HV65.out (unlike_lt HBl.out (by omega) (j + 1))
          have HBy := Lib.hid (byte_rd w5 (92 : Int) (x ^^^ 92) (E92.out ()) (xor256 hx256 (by omega)) (B := w5.heap.size + 1) (by omega))
          have HA := Lib.hid ((Below.refl w5.heap.size w5).alloc (Nat.le_refl _) (.cells #[.int .u8 (92 : Int)] 5))
          have HV6b := Lib.hid (own_gen HV65.out HA.out)
          have HV7b := Lib.hid (own_gen HV75.out HA.out)
          have HCb := Lib.hid (HC5.out.alloc HC5.out.size (.cells #[.int .u8 (92 : Int)] 5))
          go_wp2_with (at_builtin; refine wpList_append_loc rfl (.tmp 35) (.tmp 38) rfl Wk.heap.size j 1 1 (w5.heap.size + 1) (.slice A7 j c7) (unlike B 92 j) [x ^^^ 92] (some ⟨w5.heap.size, 0, none⟩) rfl rfl HV7b.out HBy.out rfl (fun e => by cases e) (by omega) (by have := HC5.out.size; simp; omega) ?_)
          intro v7' w6 h1 g1w l1
          rw [HU92.out ()] at h1
          have HV76 := Lib.hid h1
          have HV66 := Lib.hid (own_other HV6b.out g1w fun g e e' => HAP5.out g e' e)
          have HC6 := Lib.hid (under_own HCb.out HV7b.out (Nat.le_refl _) g1w (by have := HC5.out.size; simp; omega))
          have HAP6 : Hid (∀ g, v7'.ownBlock = some g → (Value.slice A6' (j + 1) c6').ownBlock ≠ some g) := Lib.hid (apart_two HAP5.out (fun g e => (own_lt HV65.out e).2) (by simp) l1)
          clear h1 g1w l1 HV6b HV7b HCb HA HBy
          obtain ⟨A7', c7', rfl, -, -, -, -, -, -⟩ := own_slice HV76.out (unlike_lt HBl.out (by omega) (j + 1))
          go_wp2
          go_roundw
          case rel => exact ⟨j + 1, c6', c7', A6', A7', by omega, by go_num, rfl, rfl, HV66, HV76, HAP6, HC6⟩
          case measure => simp [intOf]; omega
      · obtain rfl : j = 64 := by omega
        have HBw := Lib.hid (HBk.out.trans (HCk.out.mono hsk))
        have HV6' := Lib.hid HV6.out; have HV7' := Lib.hid HV7.out
        rw [unlike_all] at HV6' HV7'
        have HX6 : Hid (∀ i, gt (xored B 54) i < 256) := Lib.hid (by rw [← unlike_all]; exact unlike_lt HBl.out (by omega) 64)
        have HX7 : Hid (∀ i, gt (xored B 92) i < 256) := Lib.hid (by rw [← unlike_all]; exact unlike_lt HBl.out (by omega) 64)
        have HR29 := Lib.hid (HR2.out.below HBw.out)
        go_wp2_with (at_builtin; refine wpList_append_loc rfl (.tmp 41) (.tmp 42) rfl Wk.heap.size 64 n2 c2 w.heap.size (.slice A6 64 c6) (xored B 54) t A2 rfl rfl HV6'.out HR29.out (HN2.out ()) HC2.out (by omega) HCk.out.size ?_)
        intro v8 w8 h8 g8 l8
        have HV8 := Lib.hid h8
        have HV78 := Lib.hid (own_other HV7'.out g8 HAP.out)
        have HC8 := Lib.hid (under_own HCk.out HV6'.out (Nat.le_refl _) g8 HCk.out.size)
        have HX8 := Lib.hid (gt_append_lt HX6.out HR2.out.1)
        obtain ⟨T, hT⟩ : ∃ T, xored B 54 ++ t = T := ⟨_, rfl⟩
        rw [hT] at HV8 HX8
        have HTE := Lib.hid (fun _ : Unit => hT); clear hT h8 g8 l8 HV6 HV7 HV6' HV7' HR29 HAP
        obtain ⟨A8, c8, rfl, hA8, hnc8, hcm8, hrd8, hlen8, hblk8⟩ := own_slice HV8.out HX8.out
        have HRD8 := Lib.hid hrd8; have HLN8 := Lib.hid (fun _ : Unit => hlen8); have HA8 := Lib.hid hA8
        clear hrd8 hlen8 hA8 hblk8
        go_wp2_with fail
        refine (rsum_any A8 T (64 + n2) c8 w8 HRD8.out (HLN8.out ()) HA8.out (by omega)).mono ?_
        rintro e' w9 ⟨h9, c9, rfl, hown9, hB9⟩
        have HO9 := Lib.hid hown9; have HV79 := Lib.hid (own_gen HV78.out hB9); have HC9 := Lib.hid (HC8.out.trans (hB9.mono HC8.out.size))
        have HRS := Lib.hid (rd_of_own HO9.out (sum_lt T) (Nat.le_refl _))
        have HSL : Hid ((sum T).length = 32 ∧ ∀ i, gt (sum T) i < 256) := Lib.hid ⟨sum_len T, sum_lt T⟩
        obtain ⟨S, hS⟩ : ∃ S, sum T = S := ⟨_, rfl⟩
        rw [hS] at HRS HSL
        have HSE := Lib.hid (fun _ : Unit => hS); clear hS hown9 hB9 HO9 HV78 HV8 HC8
        go_wp2_with (at_builtin; refine wpList_append_loc rfl (.tmp 40) (.tmp 44) rfl Wk.heap.size 64 32 c9 w9.heap.size (.slice A7 64 c7) (xored B 92) S (some ⟨h9, 0, none⟩) rfl rfl HV79.out HRS.out HSL.out.1 (fun e => by cases e) (by omega) HC9.out.size ?_)
        intro v10 w10 h10 g10 l10
        have HV10 := Lib.hid h10
        have HC10 := Lib.hid (under_own HC9.out HV79.out (Nat.le_refl _) g10 HC9.out.size)
        have HX10 := Lib.hid (gt_append_lt HX7.out HSL.out.2)
        obtain ⟨U, hU⟩ : ∃ U, xored B 92 ++ S = U := ⟨_, rfl⟩
        rw [hU] at HV10 HX10
        have HUE := Lib.hid (fun _ : Unit => hU); clear hU h10 g10 l10 HV79 HRS
        obtain ⟨A10, c10, rfl, hA10, hnc10, hcm10, hrd10, hlen10, hblk10⟩ := own_slice HV10.out HX10.out
        have HRD10 := Lib.hid hrd10; have HLN10 := Lib.hid (fun _ : Unit => hlen10); have HA10 := Lib.hid hA10
        clear hrd10 hlen10 hA10 hblk10
        have HB10 := Lib.hid (HBk.out.trans (HC10.out.mono hsk))
        go_wp2_with fail
        refine (rsum_any A10 U (64 + 32) c10 w10 HRD10.out (HLN10.out ()) HA10.out (by omega)).mono ?_
        rintro e' w11 ⟨h11, c11, rfl, hown11, hB11⟩
        have HXE : Hid (Unit → sum U = X) := Lib.hid fun _ => by rw [← HX.out (), ← HUE.out (), ← HSE.out (), ← HTE.out (), ← HBB.out ()]; rfl
        rw [HXE.out ()] at hown11
        have HO11 := Lib.hid hown11; have HB11 := Lib.hid (HB10.out.trans (hB11.mono HB10.out.size)); clear hown11 hB11
        go_wp2
        go_ret
        exact ⟨h11, c11, rfl, own_lower HO11.out HB10.out.size, HB11.out⟩

theorem rmac_any (A A2 : Option Addr) (key t : List Nat) (n c n2 c2 : Nat) (w : World) (hR : Rd w w.heap.size A key) (hn : key.length = n) (hc : A = none → c = 0) (hm : n ≤ 20000)
    (hR2 : Rd w w.heap.size A2 t) (hn2 : t.length = n2) (hc2 : A2 = none → c2 = 0) (hm2 : n2 ≤ 20000) :
    Calls Tryd.prog 53 #[.slice A n c, .slice A2 n2 c2] w (Summed w (mac key t)) :=
  rmac_wide A A2 key t n c n2 c2 w hR hn hc hm hR2 hn2 hc2 (by omega)

end Go.Proofs.YtkplkfokpniflaaDoor.Sha

namespace Go.Proofs.YtkplkfokpniflaaDoor.Sha
set_option linter.all false
open Go.RowKit Iter
attribute [local go_sem ↓] Go.wp_at_zero Go.wp_at_succ

set_option maxHeartbeats 1000000 in
theorem rexpand_bad (A A2 : Option Addr) (n c n2 c2 : Nat) (x : Int) (w : World) (hx : x < 0 ∨ 8160 < x) :
    Calls Tryd.prog 38 #[.slice A n c, .slice A2 n2 c2, .int .i64 x] w fun e w' => e = .returned (.slice none 0 0) ∧ w = w' := by
  go_enter Tryd.func38, Tryd.ntmps38
  by_cases h1 : x < 0
  · go_wp2
    go_ret
    exact ⟨rfl, rfl⟩
  · have h2 : 8160 < x := by omega
    go_wp2
    go_ret
    exact ⟨rfl, rfl⟩

set_option maxHeartbeats 4000000 in
set_option maxRecDepth 100000 in
theorem rexpand_any (A A2 : Option Addr) (key info : List Nat) (n c n2 c2 N : Nat) (w : World) (hR : Rd w w.heap.size A key) (hn : key.length = n) (hc : A = none → c = 0) (hm : n ≤ 20000)
    (hR2 : Rd w w.heap.size A2 info) (hn2 : info.length = n2) (hc2 : A2 = none → c2 = 0) (hm2 : n2 ≤ 19000) (hN : N ≤ 8160) :
    Calls Tryd.prog 38 #[.slice A n c, .slice A2 n2 c2, .int .i64 N] w fun e w' => ∃ v, e = .returned v ∧ w'.ownsRow w.heap.size 5 1 v N (bcells (expand key info N)) ∧ Below w.heap.size w w' := by
  have HR := Lib.hid hR; have HN := Lib.hid (fun _ : Unit => hn); have HC := Lib.hid hc; have HR2 := Lib.hid hR2; have HN2 := Lib.hid (fun _ : Unit => hn2); have HC2 := Lib.hid hc2
  clear hR hn hc hR2 hn2 hc2
  have y0 : ¬ (N : Int) < 0 := by omega
  have y1 : ¬ (8160 : Int) < (N : Int) := by omega
  obtain ⟨X, hX⟩ : ∃ X, expand key info N = X := ⟨_, rfl⟩
  rw [hX]
  obtain ⟨B, hB⟩ : ∃ B, blockK key = B := ⟨_, rfl⟩
  have HM : Hid (∀ x, mac key x = tag B x) := Lib.hid (fun x => by rw [← hB]; rfl)
  have HXE : Hid (Unit → (upto B info 255).take N = X) := Lib.hid (fun _ => by rw [← hX, ← hB]; rfl)
  clear hX hB
  go_enter Tryd.func38, Tryd.ntmps38
  go_wp2_with fail
  go_loopw [7, 8, 9] (fun v7 v8 i W => ∃ (k Lo m8 c7 c8 q : Nat) (A7 A8 : Option Addr), k ≤ 255 ∧ Lo = 32 * k ∧ m8 ≤ 32 ∧ q = k + 1 ∧ i = .int .i64 q ∧ v7 = .slice A7 Lo c7 ∧ v8 = .slice A8 m8 c8 ∧ Hid (W.ownsRow w.heap.size 5 1 (.slice A7 Lo c7) Lo (bcells (upto B info k))) ∧ Hid (W.ownsRow w.heap.size 5 1 (.slice A8 m8 c8) m8 (bcells (piece B info k))) ∧ Hid (Below w.heap.size w W)) (fun _ _ i _ => 257 - (intOf i).toNat)
  case atStart => exact ⟨0, 0, 0, 0, 0, 1, none, none, by omega, rfl, by omega, rfl, rfl, rfl, rfl, Lib.hid ⟨rfl, .inl ⟨rfl, rfl⟩⟩, Lib.hid ⟨rfl, .inl ⟨rfl, rfl⟩⟩, Lib.hid (Below.refl _ _)⟩
  case round =>
    obtain ⟨k, Lo, m8, c7, c8, q, A7, A8, hk, hLo, hm8, hq, rfl, rfl, rfl, HV7, HV8, HB⟩ := hrel
    have HLO := Lib.hid (fun _ : Unit => hLo); have HQ := Lib.hid (fun _ : Unit => hq)
    by_cases hg : Lo < N
    · have yg : (Lo : Int) < (N : Int) := by omega
      have hk2 : k < 255 := by omega
      have hq2 : q ≤ 255 := by omega
      have hLo2 : Lo ≤ 8160 := by omega
      clear hLo hq
      have x2 : IntKind.u8.wrap (q : Int) = (q : Int) := by rw [IntKind.wrap_u8]; omega
      obtain ⟨A8', c8', hv8, hcn8, -, -, hrd8, hlen8, -⟩ := own_slice HV8.out (piece_lt B info k)
      injection hv8 with e1 e2 e3
      subst e1 e3
      clear e2
      have HLN8 := Lib.hid (fun _ : Unit => hlen8); have HCN8 := Lib.hid hcn8
      have HPL := Lib.hid (piece_lt B info k)
      obtain ⟨P0, hP0⟩ : ∃ P0, piece B info k = P0 := ⟨_, rfl⟩
      rw [hP0] at HV8 HLN8 HPL hrd8
      have HP0 := Lib.hid (fun _ : Unit => hP0)
      have HNIL := Lib.hid (nil_own wr (base := wr.heap.size) (Nat.le_refl _))
      have HA := Lib.hid ((Below.refl wr.heap.size wr).alloc (Nat.le_refl _) (.cells #[] 5))
      have HRD8 := Lib.hid (hrd8.below HA.out)
      clear hP0 hrd8 hlen8 hcn8
      go_wp2_with (at_builtin; refine wpList_append_loc rfl (.tmp 23) (.tmp 24) rfl wr.heap.size 0 m8 c8 wr.heap.size (.slice (some ⟨wr.heap.size, 0, none⟩) 0 0) [] P0 A8 rfl rfl HNIL.out HRD8.out (HLN8.out ()) HCN8.out (by omega) (by simp) ?_)
      intro v5 w5 h5 g5 l5
      try simp only [Nat.zero_add, List.nil_append] at h5
      have HO5 := Lib.hid h5
      have HB5 := Lib.hid (under_own HA.out HNIL.out (Nat.le_refl _) g5 (by simp))
      clear h5 g5 l5 HNIL HA HRD8
      obtain ⟨A5, c5, rfl, -, -, -, -, -, -⟩ := own_slice HO5.out HPL.out
      have HC5 := Lib.hid (HB.out.trans (HB5.out.mono HB.out.size))
      have HR25 := Lib.hid (HR2.out.below HC5.out)
      go_wp2_with (at_builtin; refine wpList_append_loc rfl (.tmp 25) (.tmp 26) rfl wr.heap.size m8 n2 c2 w.heap.size (.slice A5 m8 c5) P0 info A2 rfl rfl HO5.out HR25.out (HN2.out ()) HC2.out (by omega) HB5.out.size ?_)
      intro v6 w6 h6 g6 l6
      have HB6 := Lib.hid (under_own HB5.out HO5.out (Nat.le_refl _) g6 HB5.out.size)
      have HZL := Lib.hid (gt_append_lt HPL.out HR2.out.1)
      obtain ⟨Z, hZ⟩ : ∃ Z, P0 ++ info = Z := ⟨_, rfl⟩
      rw [hZ] at h6 HZL
      have HZ := Lib.hid (fun _ : Unit => hZ)
      have HO6 := Lib.hid h6
      obtain ⟨m6, hm6⟩ : ∃ m6, m8 + n2 = m6 := ⟨_, rfl⟩
      rw [hm6] at HO6
      have hm6' : m6 ≤ 19032 := by omega
      clear h6 g6 l6 hZ HR25 HC5 HO5 hm6
      obtain ⟨A6, c6, rfl, -, -, -, -, -, -⟩ := own_slice HO6.out HZL.out
      have HBy := Lib.hid (byte_rd w6 (q : Int) q rfl (by omega) (B := w6.heap.size + 1) (by omega))
      have HA := Lib.hid ((Below.refl w6.heap.size w6).alloc (Nat.le_refl _) (.cells #[.int .u8 (q : Int)] 5))
      have HO6a := Lib.hid (own_gen HO6.out HA.out)
      have HB6a := Lib.hid (HB6.out.alloc HB6.out.size (.cells #[.int .u8 (q : Int)] 5))
      go_wp2_with (at_builtin; refine wpList_append_loc rfl (.tmp 27) (.tmp 30) rfl wr.heap.size m6 1 1 (w6.heap.size + 1) (.slice A6 m6 c6) Z [q] (some ⟨w6.heap.size, 0, none⟩) rfl rfl HO6a.out HBy.out rfl (fun e => by cases e) (by omega) (by have := HB6.out.size; simp; omega) ?_)
      intro v9 w9 h9 g9 l9
      have HB9 := Lib.hid (under_own HB6a.out HO6a.out (Nat.le_refl _) g9 (by have := HB6.out.size; simp; omega))
      have HTL := Lib.hid (gt_append_lt HZL.out HBy.out.1)
      have HTE : Hid (Unit → mac key (Z ++ [q]) = piece B info (k + 1)) := Lib.hid fun _ => by
        rw [HM.out, ← HZ.out (), ← HP0.out (), List.append_assoc, HQ.out ()]; rfl
      obtain ⟨T, hT⟩ : ∃ T, Z ++ [q] = T := ⟨_, rfl⟩
      rw [hT] at h9 HTL HTE
      have HO9 := Lib.hid h9
      clear h9 g9 l9 hT HBy HA HO6a HB6a HO6 HB6
      obtain ⟨A9, c9, rfl, hcn9, -, -, hrd9, hlen9, -⟩ := own_slice HO9.out HTL.out
      have HRD9 := Lib.hid hrd9; have HLN9 := Lib.hid (fun _ : Unit => hlen9); have HCN9 := Lib.hid hcn9
      clear hrd9 hlen9 hcn9
      have HC9 := Lib.hid (HB.out.trans (HB9.out.mono HB.out.size))
      have HR9 := Lib.hid ((HR.out.below HC9.out).more HC9.out.size)
      go_wp2_with fail
      refine (rmac_any A A9 key T n c (m6 + 1) c9 w9 HR9.out (HN.out ()) HC.out hm HRD9.out (HLN9.out ()) HCN9.out (by omega)).mono ?_
      rintro e' w10 ⟨h10, c10, rfl, hown10, hB10⟩
      rw [HTE.out ()] at hown10
      have HPL10 := Lib.hid (piece_lt B info (k + 1))
      have HPN10 := Lib.hid (piece_len B info k)
      have HUP : Hid (Unit → upto B info k ++ piece B info (k + 1) = upto B info (k + 1)) := Lib.hid fun _ => rfl
      obtain ⟨P, hP⟩ : ∃ P, piece B info (k + 1) = P := ⟨_, rfl⟩
      have HP := Lib.hid (fun _ : Unit => hP)
      rw [hP] at hown10 HPL10 HPN10 HUP
      have HO10 := Lib.hid hown10
      have HB10 := Lib.hid (HB9.out.trans (hB10.mono HB9.out.size))
      have HV10 := Lib.hid (own_gen HV7.out HB10.out)
      have HC10 := Lib.hid (HB.out.trans (HB10.out.mono HB.out.size))
      have HRD10 := Lib.hid (rd_of_own HO10.out HPL10.out (Nat.le_refl _))
      clear hown10 hB10 hP HRD9 HLN9 HCN9 HR9 HO9
      go_wp2_with (at_builtin; refine wpList_append_loc rfl (.tmp 33) (.tmp 34) rfl w.heap.size Lo 32 c10 w10.heap.size (.slice A7 Lo c7) (upto B info k) P (some ⟨h10, 0, none⟩) rfl rfl HV10.out HRD10.out HPN10.out (fun e => by cases e) (by omega) HC10.out.size ?_)
      intro v11 w11 h11 g11 l11
      rw [HUP.out ()] at h11
      have HV11 := Lib.hid h11
      have HC11 := Lib.hid (under_own HC10.out HV10.out (Nat.le_refl _) g11 HC10.out.size)
      have HV8' : Hid (w11.ownsRow w.heap.size 5 1 (.slice (some ⟨h10, 0, none⟩) 32 c10) 32 (bcells (piece B info (k + 1)))) := Lib.hid (by
        rw [HP.out ()]
        refine own_lower (own_other HO10.out g11 fun g e e' => ?_) HC9.out.size
        have a1 := (own_lt HO10.out e).1
        have a2 := (own_lt HV7.out e').2
        have a3 := HB9.out.size
        omega)
      clear h11 g11 l11 HRD10 HV10 HO10 HUP
      obtain ⟨A11, c11, rfl, -, -, -, -, -, -⟩ := own_slice HV11.out (upto_lt B info (k + 1))
      go_wp2
      go_roundw
      case rel => exact ⟨k + 1, Lo + 32, 32, c11, c10, q + 1, A11, some ⟨h10, 0, none⟩, by omega, by have := HLO.out (); omega, by omega, by have := HQ.out (); omega, by go_num, rfl, rfl, HV11, HV8', HC11⟩
      case measure => simp [intOf]; omega
    · have yg : ¬ (Lo : Int) < (N : Int) := by omega
      have HXN : Hid (Unit → (upto B info k).take N = X) := Lib.hid fun _ => by rw [← HXE.out (), expand_take hk (by omega)]
      obtain ⟨A7', c7', hv7, hcn7, hnc7, hcm7, hrd7, hlen7, -⟩ := own_slice HV7.out (upto_lt B info k)
      injection hv7 with e1 e2 e3
      subst e1 e3
      clear e2 hLo hq
      have HRU := Lib.hid (hrd7.upto N)
      have HLU : Hid (((upto B info k).take N).length = N) := Lib.hid (by rw [List.length_take, hlen7]; omega)
      have HXL := Lib.hid (take_lt (upto_lt B info k) N)
      rw [HXN.out ()] at HRU HLU HXL
      have HCN7 := Lib.hid hcn7
      have HNIL := Lib.hid (nil_own wr (base := w.heap.size) HB.out.size)
      have HA := Lib.hid (HB.out.alloc HB.out.size (.cells #[] 5))
      have HRA := Lib.hid (HRU.out.below ((Below.refl wr.heap.size wr).alloc (Nat.le_refl _) (.cells #[] 5)))
      clear hcn7 hrd7 hlen7 HRU
      have yc : (N : Int) ≤ (c7 : Int) := by omega
      have yn : (0 : Int) ≤ (N : Int) := by omega
      cases A7 with
      | none =>
        have hc0 : c7 = 0 := HCN7.out rfl
        have hN0 : N = 0 := by omega
        have hL0 : Lo = 0 := by omega
        clear HCN7
        subst hc0 hN0 hL0
        go_wp2_with (at_builtin; refine wpList_append_loc rfl (.tmp 36) (.tmp 39) rfl w.heap.size 0 0 0 wr.heap.size (.slice (some ⟨wr.heap.size, 0, none⟩) 0 0) [] X none rfl rfl HNIL.out HRA.out HLU.out (fun _ => rfl) (by omega) (by have := HB.out.size; simp; omega) ?_)
        intro v12 w12 h12 g12 l12
        try simp only [Nat.zero_add, List.nil_append] at h12
        have HO12 := Lib.hid h12
        have HC12 := Lib.hid (under_own HA.out HNIL.out (Nat.le_refl _) g12 (by have := HB.out.size; simp; omega))
        clear h12 g12 l12
        obtain ⟨A12, c12, rfl, -, -, -, -, -, -⟩ := own_slice HO12.out HXL.out
        go_wp2
        go_ret
        exact ⟨_, rfl, HO12.out, HC12.out⟩
      | some ad =>
        go_wp2_with (at_builtin; refine wpList_append_loc rfl (.tmp 36) (.tmp 39) rfl w.heap.size 0 N c7 wr.heap.size (.slice (some ⟨wr.heap.size, 0, none⟩) 0 0) [] X (some ad) rfl rfl HNIL.out HRA.out HLU.out (fun e => by cases e) (by omega) (by have := HB.out.size; simp; omega) ?_)
        intro v12 w12 h12 g12 l12
        try simp only [Nat.zero_add, List.nil_append] at h12
        have HO12 := Lib.hid h12
        have HC12 := Lib.hid (under_own HA.out HNIL.out (Nat.le_refl _) g12 (by have := HB.out.size; simp; omega))
        clear h12 g12 l12
        obtain ⟨A12, c12, rfl, -, -, -, -, -, -⟩ := own_slice HO12.out HXL.out
        go_wp2
        go_ret
        exact ⟨_, rfl, HO12.out, HC12.out⟩
end Go.Proofs.YtkplkfokpniflaaDoor.Sha

namespace Go.Proofs.YtkplkfokpniflaaDoor.Sha
set_option linter.all false
open Go.RowKit Iter
attribute [local go_sem ↓] Go.wp_at_zero Go.wp_at_succ

theorem own_down {w : World} {base base' n : Nat} {v : Value} {xs : List Value} (h : w.ownsRow base 5 1 v n xs) (hb : base' ≤ base) : w.ownsRow base' 5 1 v n xs := by
  refine ⟨h.1, ?_⟩
  rcases h.2 with h2 | ⟨g, c, cur, he, hbase, rest⟩
  · exact .inl h2
  · exact .inr ⟨g, c, cur, he, by omega, rest⟩

set_option maxHeartbeats 1000000 in
theorem rinfo_bad (s : ByteArray) (A2 : Option Addr) (nb cb : Nat) (x : Int) (w : World) (hx : x < 0 ∨ 8160 < x ∨ 40 < s.size ∨ 16000 < nb) :
    Calls Tryd.prog 37 #[.string s, .slice A2 nb cb, .int .i64 x] w fun e w' => e = .returned (.slice none 0 0) ∧ w = w' := by
  go_enter Tryd.func37, Tryd.ntmps37
  by_cases h1 : x < 0
  · go_wp2
    go_ret
    exact ⟨rfl, rfl⟩
  by_cases h2 : 8160 < x
  · go_wp2
    go_ret
    exact ⟨rfl, rfl⟩
  by_cases h3 : 40 < s.size
  · have y3 : (40 : Int) < (s.size : Int) := by omega
    go_wp2
    go_ret
    exact ⟨rfl, rfl⟩
  have y3 : ¬ (40 : Int) < (s.size : Int) := by omega
  have y4 : (16000 : Int) < (nb : Int) := by omega
  go_wp2
  go_ret
  exact ⟨rfl, rfl⟩

set_option maxHeartbeats 1000000 in
theorem rlabel_bad (s : ByteArray) (A A2 : Option Addr) (n c nb cb : Nat) (x : Int) (w : World) (hx : x < 0 ∨ 8160 < x ∨ 40 < s.size ∨ 16000 < nb) :
    Calls Tryd.prog 26 #[.slice A n c, .string s, .slice A2 nb cb, .int .i64 x] w fun e w' => e = .returned (.slice none 0 0) ∧ w = w' := by
  go_enter Tryd.func26, Tryd.ntmps26
  go_wp2_with fail
  refine (rinfo_bad s A2 nb cb x w hx).mono ?_
  rintro e' w1 ⟨rfl, rfl⟩
  go_wp2
  go_ret
  exact ⟨rfl, rfl⟩

set_option maxHeartbeats 1000000 in
theorem rlabel_any (s : ByteArray) (A A2 : Option Addr) (key b : List Nat) (n c nb cb N : Nat) (w : World) (hR : Rd w w.heap.size A key) (hn : key.length = n) (hc : A = none → c = 0) (hm : n ≤ 20000)
    (hR2 : Rd w w.heap.size A2 b) (hn2 : b.length = nb) (hc2 : A2 = none → cb = 0) (hN : N ≤ 8160) (hs : s.size ≤ 40) (hb : nb ≤ 16000) :
    Calls Tryd.prog 26 #[.slice A n c, .string s, .slice A2 nb cb, .int .i64 N] w fun e w' => ∃ v, e = .returned v ∧ w'.ownsRow w.heap.size 5 1 v N (bcells (expand key (infoL (strL s) b N) N)) ∧ Below w.heap.size w w' := by
  have HR := Lib.hid hR; have HN := Lib.hid (fun _ : Unit => hn); have HC := Lib.hid hc; have HR2 := Lib.hid hR2
  have hil : (infoL (strL s) b N).length = 11 + s.size + (lenB nb).length + nb := by rw [infoL_len, strL_len, hn2]; omega
  have hl2 := lenB_len nb
  have HII : Hid (∀ j, gt (infoL (strL s) b N) j < 256) := Lib.hid (infoL_lt (n := N) (strL_lt s) HR2.out.1 (by rw [strL_len]; exact hs))
  obtain ⟨I, hI⟩ : ∃ I, infoL (strL s) b N = I := ⟨_, rfl⟩
  rw [hI] at HII hil ⊢
  have HIE := Lib.hid (fun _ : Unit => hI)
  clear hR hn hc hI
  go_enter Tryd.func26, Tryd.ntmps26
  go_wp2_with fail
  refine (rinfo_any s A2 b nb cb N w hR2 hn2 hc2 hN hs hb).mono ?_
  rintro e' w1 ⟨h1, m1, c1, rfl, hm1, hown, hB⟩
  rw [HIE.out ()] at hm1 hown
  have hm1' : m1 = 11 + s.size + (lenB nb).length + nb := hm1.trans hil
  have hm0 : 0 < m1 := by omega
  have hm9 : m1 ≤ 19000 := by omega
  have HIL : Hid (I.length = m1) := Lib.hid hm1.symm
  have HO := Lib.hid hown; have HB := Lib.hid hB
  clear hm1 hm1' hown hB hil hR2 hn2 hc2 hl2
  have y1 : ¬ (m1 : Int) = 0 := by omega
  have HRI := Lib.hid (rd_of_own HO.out HII.out (Nat.le_refl _))
  have HR1 := Lib.hid ((HR.out.below HB.out).more HB.out.size)
  go_wp2_with fail
  refine (rexpand_any A (some ⟨h1, 0, none⟩) key I n c m1 c1 N w1 HR1.out (HN.out ()) HC.out hm HRI.out HIL.out (fun e => by cases e) hm9 hN).mono ?_
  rintro e' w2 ⟨v2, rfl, hown2, hB2⟩
  have HXL : Hid (∀ j, gt (expand key I N) j < 256) := Lib.hid (take_lt (upto_lt _ _ _) _)
  have HO2 := Lib.hid hown2; have HB2 := Lib.hid (HB.out.trans (hB2.mono HB.out.size)); have hs1 := HB.out.size
  clear hown2 hB2
  obtain ⟨A2', c2', rfl, -, -, -, -, -, hblk⟩ := own_slice HO2.out HXL.out
  go_wp2
  go_ret
  exact ⟨_, rfl, own_down HO2.out hs1, HB2.out⟩

/-- a slice with these bytes; its row lies at or above lo -/
def Held (lo : Nat) (v : Value) (bs : List Nat) (w : World) : Prop :=
  ∃ (A : Option Addr) (n c : Nat), v = .slice A n c ∧ Rd w w.heap.size A bs ∧ bs.length = n ∧ ∀ ad, A = some ad → lo ≤ ad.block
theorem Held.none (lo : Nat) (w : World) : Held lo (.slice none 0 0) [] w := ⟨.none, 0, 0, rfl, Rd.nil _ _ _, rfl, fun _ e => by cases e⟩
theorem Held.of_own {lo base n : Nat} {w : World} {v : Value} {bs : List Nat} (h : w.ownsRow base 5 1 v n (bcells bs)) (hx : ∀ j, gt bs j < 256) (hb : lo ≤ base) : Held lo v bs w := by
  obtain ⟨A, c, rfl, -, -, -, hrd, hlen, hblk⟩ := own_slice h hx
  refine ⟨A, n, c, rfl, hrd, hlen, fun ad e => ?_⟩
  subst e
  have := (hblk ad.block rfl).1
  omega
theorem Held.lower {lo lo' : Nat} {v : Value} {bs : List Nat} {w : World} (h : Held lo v bs w) (hl : lo' ≤ lo) : Held lo' v bs w := by
  obtain ⟨A, n, c, e, h1, h2, h3⟩ := h
  exact ⟨A, n, c, e, h1, h2, fun ad e => Nat.le_trans hl (h3 ad e)⟩
theorem Held.below {lo : Nat} {v : Value} {bs : List Nat} {w w' : World} (h : Held lo v bs w) (hb : Below w.heap.size w w') : Held lo v bs w' := by
  obtain ⟨A, n, c, e, h1, h2, h3⟩ := h
  exact ⟨A, n, c, e, (h1.below hb).more hb.size, h2, h3⟩
theorem Held.kept {lo : Nat} {v : Value} {bs : List Nat} {w w' : World} (h : Held lo v bs w) (hs : w.heap.size ≤ w'.heap.size) (hc : ∀ p : Addr, lo ≤ p.block → p.block < w.heap.size → w'.cell? p = w.cell? p) : Held lo v bs w' := by
  obtain ⟨A, n, c, e, h1, h2, h3⟩ := h
  refine ⟨A, n, c, e, ⟨h1.1, fun hn => ?_⟩, h2, h3⟩
  obtain ⟨ad, ha, hlt, hr⟩ := h1.2 hn
  refine ⟨ad, ha, by omega, fun j hj => ?_⟩
  have hbl : (ad.add j).block = ad.block := by unfold Addr.add; split <;> rfl
  rw [hc _ (by rw [hbl]; exact h3 ad ha) (by rw [hbl]; exact hlt)]
  exact hr j hj
theorem Held.conv {lo : Nat} {v : Value} {bs : List Nat} {w : World} (h : Held lo v bs w) : (convert 22 9 v).run Tryd.prog w = .ok (.string (txt bs)) w := by
  obtain ⟨A, n, c, rfl, h1, h2, -⟩ := h
  exact conv_rd h1 h2
/-- what Expand and Label tell of any number -/
def exp (key info : List Nat) (x : Int) : List Nat := if 0 ≤ x ∧ x ≤ 8160 then expand key info x.toNat else []
def lab (key : List Nat) (s : ByteArray) (b : List Nat) (x : Int) : List Nat := if (0 ≤ x ∧ x ≤ 8160) ∧ s.size ≤ 40 ∧ b.length ≤ 16000 then expand key (infoL (strL s) b x.toNat) x.toNat else []
def Told (bs : List Nat) (w : World) (e : Ending) (w' : World) : Prop := ∃ v, e = .returned v ∧ Held w.heap.size v bs w' ∧ Below w.heap.size w w'
theorem exp_lt (key info : List Nat) (n : Nat) : ∀ j, gt (expand key info n) j < 256 := take_lt (upto_lt _ _ _) _
theorem Told.of_summed {bs : List Nat} {w w' : World} {e : Ending} (hx : ∀ j, gt bs j < 256) (h : Summed w bs e w') : Told bs w e w' := by
  obtain ⟨h, cap, rfl, ho, hb⟩ := h
  exact ⟨_, rfl, Held.of_own ho hx (Nat.le_refl _), hb⟩
theorem expand_told (A A2 : Option Addr) (key info : List Nat) (n c n2 c2 : Nat) (x : Int) (w : World) (hT : Tables w) (hR : Rd w w.heap.size A key) (hn : key.length = n) (hnc : n ≤ c) (hc : c ≤ 9223372036854775807) (hm : n ≤ 100000)
    (hR2 : Rd w w.heap.size A2 info) (hn2 : info.length = n2) (hnc2 : n2 ≤ c2) (hc2 : c2 ≤ 9223372036854775807) (hm2 : n2 ≤ 100000) :
    Calls Tryd.prog 50 #[.slice A n c, .slice A2 n2 c2, .int .i64 x] w (Told (exp key info x) w) := by
  by_cases h : 0 ≤ x ∧ x ≤ 8160
  · obtain ⟨N, rfl⟩ := Int.eq_ofNat_of_zero_le h.1
    unfold exp
    rw [if_pos h, Int.toNat_natCast]
    refine (expand_any A A2 key info n c n2 c2 N w hT hR hn hnc hc hm hR2 hn2 hnc2 hc2 hm2 (by omega)).mono ?_
    rintro e' w' ⟨h, rfl, ho, hb⟩
    exact ⟨_, rfl, Held.of_own ho (exp_lt _ _ _) (Nat.le_refl _), hb⟩
  · unfold exp
    rw [if_neg h]
    refine (expand_bad A A2 n c n2 c2 x w (by omega)).mono ?_
    rintro e' w' ⟨rfl, hb⟩
    exact ⟨_, rfl, Held.none _ _, hb⟩
theorem label_told (s : ByteArray) (A A2 : Option Addr) (key b : List Nat) (n c nb cb : Nat) (x : Int) (w : World) (hT : Tables w) (hR : Rd w w.heap.size A key) (hn : key.length = n) (hnc : n ≤ c) (hc : c ≤ 9223372036854775807) (hm : n ≤ 100000)
    (hR2 : Rd w w.heap.size A2 b) (hn2 : b.length = nb) (hcb : A2 = none → cb = 0) :
    Calls Tryd.prog 36 #[.slice A n c, .string s, .slice A2 nb cb, .int .i64 x] w (Told (lab key s b x) w) := by
  by_cases h : (0 ≤ x ∧ x ≤ 8160) ∧ s.size ≤ 40 ∧ nb ≤ 16000
  · obtain ⟨N, rfl⟩ := Int.eq_ofNat_of_zero_le h.1.1
    unfold lab
    rw [hn2, if_pos h, Int.toNat_natCast]
    refine (label_any s A A2 key b n c nb cb N w hT hR hn hnc hc hm hR2 hn2 hcb (by omega) h.2.1 h.2.2).mono ?_
    rintro e' w' ⟨h, rfl, ho, hb⟩
    exact ⟨_, rfl, Held.of_own ho (exp_lt _ _ _) (Nat.le_refl _), hb⟩
  · unfold lab
    rw [hn2, if_neg h]
    refine (label_bad A A2 n c nb cb s x w (by omega)).mono ?_
    rintro e' w' ⟨rfl, rfl⟩
    exact ⟨_, rfl, Held.none _ _, Below.refl _ _⟩
theorem rmac_told (A A2 : Option Addr) (key t : List Nat) (n c n2 c2 : Nat) (w : World) (hR : Rd w w.heap.size A key) (hn : key.length = n) (hc : A = none → c = 0) (hm : n ≤ 20000)
    (hR2 : Rd w w.heap.size A2 t) (hn2 : t.length = n2) (hc2 : A2 = none → c2 = 0) (hm2 : n2 ≤ 20000) :
    Calls Tryd.prog 53 #[.slice A n c, .slice A2 n2 c2] w (Told (mac key t) w) :=
  (rmac_any A A2 key t n c n2 c2 w hR hn hc hm hR2 hn2 hc2 hm2).mono fun _ _ h => Told.of_summed (mac_lt _ _) h
theorem rexpand_told (A A2 : Option Addr) (key info : List Nat) (n c n2 c2 : Nat) (x : Int) (w : World) (hR : Rd w w.heap.size A key) (hn : key.length = n) (hc : A = none → c = 0) (hm : n ≤ 20000)
    (hR2 : Rd w w.heap.size A2 info) (hn2 : info.length = n2) (hc2 : A2 = none → c2 = 0) (hm2 : n2 ≤ 19000) :
    Calls Tryd.prog 38 #[.slice A n c, .slice A2 n2 c2, .int .i64 x] w (Told (exp key info x) w) := by
  by_cases h : 0 ≤ x ∧ x ≤ 8160
  · obtain ⟨N, rfl⟩ := Int.eq_ofNat_of_zero_le h.1
    unfold exp
    rw [if_pos h, Int.toNat_natCast]
    refine (rexpand_any A A2 key info n c n2 c2 N w hR hn hc hm hR2 hn2 hc2 hm2 (by omega)).mono ?_
    rintro e' w' ⟨v, rfl, ho, hb⟩
    exact ⟨_, rfl, Held.of_own ho (exp_lt _ _ _) (Nat.le_refl _), hb⟩
  · unfold exp
    rw [if_neg h]
    refine (rexpand_bad A A2 n c n2 c2 x w (by omega)).mono ?_
    rintro e' w' ⟨rfl, rfl⟩
    exact ⟨_, rfl, Held.none _ _, Below.refl _ _⟩
theorem rlabel_told (s : ByteArray) (A A2 : Option Addr) (key b : List Nat) (n c nb cb : Nat) (x : Int) (w : World) (hR : Rd w w.heap.size A key) (hn : key.length = n) (hc : A = none → c = 0) (hm : n ≤ 20000)
    (hR2 : Rd w w.heap.size A2 b) (hn2 : b.length = nb) (hc2 : A2 = none → cb = 0) :
    Calls Tryd.prog 26 #[.slice A n c, .string s, .slice A2 nb cb, .int .i64 x] w (Told (lab key s b x) w) := by
  by_cases h : (0 ≤ x ∧ x ≤ 8160) ∧ s.size ≤ 40 ∧ nb ≤ 16000
  · obtain ⟨N, rfl⟩ := Int.eq_ofNat_of_zero_le h.1.1
    unfold lab
    rw [hn2, if_pos h, Int.toNat_natCast]
    refine (rlabel_any s A A2 key b n c nb cb N w hR hn hc hm hR2 hn2 hc2 (by omega) h.2.1 h.2.2).mono ?_
    rintro e' w' ⟨v, rfl, ho, hb⟩
    exact ⟨_, rfl, Held.of_own ho (exp_lt _ _ _) (Nat.le_refl _), hb⟩
  · unfold lab
    rw [hn2, if_neg h]
    refine (rlabel_bad s A A2 n c nb cb x w (by omega)).mono ?_
    rintro e' w' ⟨rfl, rfl⟩
    exact ⟨_, rfl, Held.none _ _, Below.refl _ _⟩
end Go.Proofs.YtkplkfokpniflaaDoor.Sha
