/- The document's own: Label; all answers in one form. -/
import Derived.Test.YtfcnhendebjjeaaDoorHkRefE
import Derived.Test.YtfcnhendebjjeaaDoorHkWalkG
import Derived.Test.YtfcnhendebjjeaaDoorHkInfoPlain
namespace Go.Proofs.YtfcnhendebjjeaaDoor.Sha
set_option linter.all false
open Go.RowKit Iter
attribute [local go_sem ↓] Go.wp_at_zero Go.wp_at_succ

theorem own_down {w : World} {base base' n : Nat} {v : Value} {xs : List Value} (h : w.ownsRow base 5 1 v n xs) (hb : base' ≤ base) : w.ownsRow base' 5 1 v n xs := by
  refine ⟨h.1, ?_⟩
  rcases h.2 with h2 | ⟨g, c, cur, he, hbase, rest⟩
  · exact .inl h2
  · exact .inr ⟨g, c, cur, he, by omega, rest⟩

set_option maxHeartbeats 1000000 in
theorem rinfo_bad (s : ByteArray) (A2 : Option Addr) (nb cb : Nat) (x : Int) (w : World) (hx : x < 0 ∨ 8160 < x ∨ 40 < s.size ∨ 16000 < nb) :
    Calls Tryd.prog 20 #[.string s, .slice A2 nb cb, .int .i64 x] w fun e w' => e = .returned (.slice none 0 0) ∧ w = w' := by
  go_enter Tryd.func20, Tryd.ntmps20
  by_cases h1 : x < 0
  · go_wp2
    go_ret
    exact ⟨rfl, rfl⟩
  by_cases h2 : 8160 < x
  · go_wp2
    go_ret
    exact ⟨rfl, rfl⟩
  by_cases h3 : 40 < s.size
  · have y3 : (40 : Int) < (s.size : Int) := by omega
    go_wp2
    go_ret
    exact ⟨rfl, rfl⟩
  have y3 : ¬ (40 : Int) < (s.size : Int) := by omega
  have y4 : (16000 : Int) < (nb : Int) := by omega
  go_wp2
  go_ret
  exact ⟨rfl, rfl⟩

set_option maxHeartbeats 1000000 in
theorem rlabel_bad (s : ByteArray) (A A2 : Option Addr) (n c nb cb : Nat) (x : Int) (w : World) (hx : x < 0 ∨ 8160 < x ∨ 40 < s.size ∨ 16000 < nb) :
    Calls Tryd.prog 18 #[.slice A n c, .string s, .slice A2 nb cb, .int .i64 x] w fun e w' => e = .returned (.slice none 0 0) ∧ w = w' := by
  go_enter Tryd.func18, Tryd.ntmps18
  go_wp2_with fail
  refine (rinfo_bad s A2 nb cb x w hx).mono ?_
  rintro e' w1 ⟨rfl, rfl⟩
  go_wp2
  go_ret
  exact ⟨rfl, rfl⟩

set_option maxHeartbeats 1000000 in
theorem rlabel_any (s : ByteArray) (A A2 : Option Addr) (key b : List Nat) (n c nb cb N : Nat) (w : World) (hR : Rd w w.heap.size A key) (hn : key.length = n) (hc : A = none → c = 0) (hm : n ≤ 20000)
    (hR2 : Rd w w.heap.size A2 b) (hn2 : b.length = nb) (hc2 : A2 = none → cb = 0) (hN : N ≤ 8160) (hs : s.size ≤ 40) (hb : nb ≤ 16000) :
    Calls Tryd.prog 18 #[.slice A n c, .string s, .slice A2 nb cb, .int .i64 N] w fun e w' => ∃ v, e = .returned v ∧ w'.ownsRow w.heap.size 5 1 v N (bcells (expand key (infoL (strL s) b N) N)) ∧ Below w.heap.size w w' := by
  have HR := Lib.hid hR; have HN := Lib.hid (fun _ : Unit => hn); have HC := Lib.hid hc; have HR2 := Lib.hid hR2
  have hil : (infoL (strL s) b N).length = 11 + s.size + (lenB nb).length + nb := by rw [infoL_len, strL_len, hn2]; omega
  have hl2 := lenB_len nb
  have HII : Hid (∀ j, gt (infoL (strL s) b N) j < 256) := Lib.hid (infoL_lt (n := N) (strL_lt s) HR2.out.1 (by rw [strL_len]; exact hs))
  obtain ⟨I, hI⟩ : ∃ I, infoL (strL s) b N = I := ⟨_, rfl⟩
  rw [hI] at HII hil ⊢
  have HIE := Lib.hid (fun _ : Unit => hI)
  clear hR hn hc hI
  go_enter Tryd.func18, Tryd.ntmps18
  go_wp2_with fail
  refine (rinfo_any s A2 b nb cb N w hR2 hn2 hc2 hN hs hb).mono ?_
  rintro e' w1 ⟨h1, m1, c1, rfl, hm1, hown, hB⟩
  rw [HIE.out ()] at hm1 hown
  have hm1' : m1 = 11 + s.size + (lenB nb).length + nb := hm1.trans hil
  have hm0 : 0 < m1 := by omega
  have hm9 : m1 ≤ 19000 := by omega
  have HIL : Hid (I.length = m1) := Lib.hid hm1.symm
  have HO := Lib.hid hown; have HB := Lib.hid hB
  clear hm1 hm1' hown hB hil hR2 hn2 hc2 hl2
  have y1 : ¬ (m1 : Int) = 0 := by omega
  have HRI := Lib.hid (rd_of_own HO.out HII.out (Nat.le_refl _))
  have HR1 := Lib.hid ((HR.out.below HB.out).more HB.out.size)
  go_wp2_with fail
  refine (rexpand_any A (some ⟨h1, 0, none⟩) key I n c m1 c1 N w1 HR1.out (HN.out ()) HC.out hm HRI.out HIL.out (fun e => by cases e) hm9 hN).mono ?_
  rintro e' w2 ⟨v2, rfl, hown2, hB2⟩
  have HXL : Hid (∀ j, gt (expand key I N) j < 256) := Lib.hid (take_lt (upto_lt _ _ _) _)
  have HO2 := Lib.hid hown2; have HB2 := Lib.hid (HB.out.trans (hB2.mono HB.out.size)); have hs1 := HB.out.size
  clear hown2 hB2
  obtain ⟨A2', c2', rfl, -, -, -, -, -, hblk⟩ := own_slice HO2.out HXL.out
  go_wp2
  go_ret
  exact ⟨_, rfl, own_down HO2.out hs1, HB2.out⟩

/-- a slice with these bytes; its row lies at or above lo -/
def Held (lo : Nat) (v : Value) (bs : List Nat) (w : World) : Prop :=
  ∃ (A : Option Addr) (n c : Nat), v = .slice A n c ∧ Rd w w.heap.size A bs ∧ bs.length = n ∧ ∀ ad, A = some ad → lo ≤ ad.block
theorem Held.none (lo : Nat) (w : World) : Held lo (.slice none 0 0) [] w := ⟨.none, 0, 0, rfl, Rd.nil _ _ _, rfl, fun _ e => by cases e⟩
theorem Held.of_own {lo base n : Nat} {w : World} {v : Value} {bs : List Nat} (h : w.ownsRow base 5 1 v n (bcells bs)) (hx : ∀ j, gt bs j < 256) (hb : lo ≤ base) : Held lo v bs w := by
  obtain ⟨A, c, rfl, -, -, -, hrd, hlen, hblk⟩ := own_slice h hx
  refine ⟨A, n, c, rfl, hrd, hlen, fun ad e => ?_⟩
  subst e
  have := (hblk ad.block rfl).1
  omega
theorem Held.lower {lo lo' : Nat} {v : Value} {bs : List Nat} {w : World} (h : Held lo v bs w) (hl : lo' ≤ lo) : Held lo' v bs w := by
  obtain ⟨A, n, c, e, h1, h2, h3⟩ := h
  exact ⟨A, n, c, e, h1, h2, fun ad e => Nat.le_trans hl (h3 ad e)⟩
theorem Held.below {lo : Nat} {v : Value} {bs : List Nat} {w w' : World} (h : Held lo v bs w) (hb : Below w.heap.size w w') : Held lo v bs w' := by
  obtain ⟨A, n, c, e, h1, h2, h3⟩ := h
  exact ⟨A, n, c, e, (h1.below hb).more hb.size, h2, h3⟩
theorem Held.kept {lo : Nat} {v : Value} {bs : List Nat} {w w' : World} (h : Held lo v bs w) (hs : w.heap.size ≤ w'.heap.size) (hc : ∀ p : Addr, lo ≤ p.block → p.block < w.heap.size → w'.cell? p = w.cell? p) : Held lo v bs w' := by
  obtain ⟨A, n, c, e, h1, h2, h3⟩ := h
  refine ⟨A, n, c, e, ⟨h1.1, fun hn => ?_⟩, h2, h3⟩
  obtain ⟨ad, ha, hlt, hr⟩ := h1.2 hn
  refine ⟨ad, ha, by omega, fun j hj => ?_⟩
  have hbl : (ad.add j).block = ad.block := by unfold Addr.add; split <;> rfl
  rw [hc _ (by rw [hbl]; exact h3 ad ha) (by rw [hbl]; exact hlt)]
  exact hr j hj
theorem Held.conv {lo : Nat} {v : Value} {bs : List Nat} {w : World} (h : Held lo v bs w) : (convert 22 9 v).run Tryd.prog w = .ok (.string (txt bs)) w := by
  obtain ⟨A, n, c, rfl, h1, h2, -⟩ := h
  exact conv_rd h1 h2
/-- what Expand and Label tell of any number -/
def exp (key info : List Nat) (x : Int) : List Nat := if 0 ≤ x ∧ x ≤ 8160 then expand key info x.toNat else []
def lab (key : List Nat) (s : ByteArray) (b : List Nat) (x : Int) : List Nat := if (0 ≤ x ∧ x ≤ 8160) ∧ s.size ≤ 40 ∧ b.length ≤ 16000 then expand key (infoL (strL s) b x.toNat) x.toNat else []
def Told (bs : List Nat) (w : World) (e : Ending) (w' : World) : Prop := ∃ v, e = .returned v ∧ Held w.heap.size v bs w' ∧ Below w.heap.size w w'
theorem exp_lt (key info : List Nat) (n : Nat) : ∀ j, gt (expand key info n) j < 256 := take_lt (upto_lt _ _ _) _
theorem Told.of_summed {bs : List Nat} {w w' : World} {e : Ending} (hx : ∀ j, gt bs j < 256) (h : Summed w bs e w') : Told bs w e w' := by
  obtain ⟨h, cap, rfl, ho, hb⟩ := h
  exact ⟨_, rfl, Held.of_own ho hx (Nat.le_refl _), hb⟩
theorem mac_told (A A2 : Option Addr) (key t : List Nat) (n c n2 c2 : Nat) (w : World) (hT : Tables w) (hR : Rd w w.heap.size A key) (hn : key.length = n) (hnc : n ≤ c) (hc : c ≤ 9223372036854775807) (hm : n ≤ 100000)
    (hR2 : Rd w w.heap.size A2 t) (hn2 : t.length = n2) (hnc2 : n2 ≤ c2) (hc2 : c2 ≤ 9223372036854775807) (hm2 : n2 ≤ 100000) :
    Calls Tryd.prog 11 #[.slice A n c, .slice A2 n2 c2] w (Told (mac key t) w) :=
  (mac_any A A2 key t n c n2 c2 w hT hR hn hnc hc hm hR2 hn2 hnc2 hc2 hm2).mono fun _ _ h => Told.of_summed (mac_lt _ _) h
theorem extract_told (A A2 : Option Addr) (key t : List Nat) (n c n2 c2 : Nat) (w : World) (hT : Tables w) (hR : Rd w w.heap.size A key) (hn : key.length = n) (hnc : n ≤ c) (hc : c ≤ 9223372036854775807) (hm : n ≤ 100000)
    (hR2 : Rd w w.heap.size A2 t) (hn2 : t.length = n2) (hnc2 : n2 ≤ c2) (hc2 : c2 ≤ 9223372036854775807) (hm2 : n2 ≤ 100000) :
    Calls Tryd.prog 12 #[.slice A n c, .slice A2 n2 c2] w (Told (mac key t) w) :=
  (extract_any A A2 key t n c n2 c2 w hT hR hn hnc hc hm hR2 hn2 hnc2 hc2 hm2).mono fun _ _ h => Told.of_summed (mac_lt _ _) h
theorem expand_told (A A2 : Option Addr) (key info : List Nat) (n c n2 c2 : Nat) (x : Int) (w : World) (hT : Tables w) (hR : Rd w w.heap.size A key) (hn : key.length = n) (hnc : n ≤ c) (hc : c ≤ 9223372036854775807) (hm : n ≤ 100000)
    (hR2 : Rd w w.heap.size A2 info) (hn2 : info.length = n2) (hnc2 : n2 ≤ c2) (hc2 : c2 ≤ 9223372036854775807) (hm2 : n2 ≤ 100000) :
    Calls Tryd.prog 13 #[.slice A n c, .slice A2 n2 c2, .int .i64 x] w (Told (exp key info x) w) := by
  by_cases h : 0 ≤ x ∧ x ≤ 8160
  · obtain ⟨N, rfl⟩ := Int.eq_ofNat_of_zero_le h.1
    unfold exp
    rw [if_pos h, Int.toNat_natCast]
    refine (expand_any A A2 key info n c n2 c2 N w hT hR hn hnc hc hm hR2 hn2 hnc2 hc2 hm2 (by omega)).mono ?_
    rintro e' w' ⟨h, rfl, ho, hb⟩
    exact ⟨_, rfl, Held.of_own ho (exp_lt _ _ _) (Nat.le_refl _), hb⟩
  · unfold exp
    rw [if_neg h]
    refine (expand_bad A A2 n c n2 c2 x w (by omega)).mono ?_
    rintro e' w' ⟨rfl, hb⟩
    exact ⟨_, rfl, Held.none _ _, hb⟩
theorem label_told (s : ByteArray) (A A2 : Option Addr) (key b : List Nat) (n c nb cb : Nat) (x : Int) (w : World) (hT : Tables w) (hR : Rd w w.heap.size A key) (hn : key.length = n) (hnc : n ≤ c) (hc : c ≤ 9223372036854775807) (hm : n ≤ 100000)
    (hR2 : Rd w w.heap.size A2 b) (hn2 : b.length = nb) (hcb : A2 = none → cb = 0) :
    Calls Tryd.prog 14 #[.slice A n c, .string s, .slice A2 nb cb, .int .i64 x] w (Told (lab key s b x) w) := by
  by_cases h : (0 ≤ x ∧ x ≤ 8160) ∧ s.size ≤ 40 ∧ nb ≤ 16000
  · obtain ⟨N, rfl⟩ := Int.eq_ofNat_of_zero_le h.1.1
    unfold lab
    rw [hn2, if_pos h, Int.toNat_natCast]
    refine (label_any s A A2 key b n c nb cb N w hT hR hn hnc hc hm hR2 hn2 hcb (by omega) h.2.1 h.2.2).mono ?_
    rintro e' w' ⟨h, rfl, ho, hb⟩
    exact ⟨_, rfl, Held.of_own ho (exp_lt _ _ _) (Nat.le_refl _), hb⟩
  · unfold lab
    rw [hn2, if_neg h]
    refine (label_bad A A2 n c nb cb s x w (by omega)).mono ?_
    rintro e' w' ⟨rfl, rfl⟩
    exact ⟨_, rfl, Held.none _ _, Below.refl _ _⟩
theorem rmac_told (A A2 : Option Addr) (key t : List Nat) (n c n2 c2 : Nat) (w : World) (hR : Rd w w.heap.size A key) (hn : key.length = n) (hc : A = none → c = 0) (hm : n ≤ 20000)
    (hR2 : Rd w w.heap.size A2 t) (hn2 : t.length = n2) (hc2 : A2 = none → c2 = 0) (hm2 : n2 ≤ 20000) :
    Calls Tryd.prog 15 #[.slice A n c, .slice A2 n2 c2] w (Told (mac key t) w) :=
  (rmac_any A A2 key t n c n2 c2 w hR hn hc hm hR2 hn2 hc2 hm2).mono fun _ _ h => Told.of_summed (mac_lt _ _) h
theorem rextract_told (A A2 : Option Addr) (key t : List Nat) (n c n2 c2 : Nat) (w : World) (hR : Rd w w.heap.size A key) (hn : key.length = n) (hc : A = none → c = 0) (hm : n ≤ 20000)
    (hR2 : Rd w w.heap.size A2 t) (hn2 : t.length = n2) (hc2 : A2 = none → c2 = 0) (hm2 : n2 ≤ 20000) :
    Calls Tryd.prog 16 #[.slice A n c, .slice A2 n2 c2] w (Told (mac key t) w) :=
  (rextract_any A A2 key t n c n2 c2 w hR hn hc hm hR2 hn2 hc2 hm2).mono fun _ _ h => Told.of_summed (mac_lt _ _) h
theorem rexpand_told (A A2 : Option Addr) (key info : List Nat) (n c n2 c2 : Nat) (x : Int) (w : World) (hR : Rd w w.heap.size A key) (hn : key.length = n) (hc : A = none → c = 0) (hm : n ≤ 20000)
    (hR2 : Rd w w.heap.size A2 info) (hn2 : info.length = n2) (hc2 : A2 = none → c2 = 0) (hm2 : n2 ≤ 19000) :
    Calls Tryd.prog 17 #[.slice A n c, .slice A2 n2 c2, .int .i64 x] w (Told (exp key info x) w) := by
  by_cases h : 0 ≤ x ∧ x ≤ 8160
  · obtain ⟨N, rfl⟩ := Int.eq_ofNat_of_zero_le h.1
    unfold exp
    rw [if_pos h, Int.toNat_natCast]
    refine (rexpand_any A A2 key info n c n2 c2 N w hR hn hc hm hR2 hn2 hc2 hm2 (by omega)).mono ?_
    rintro e' w' ⟨v, rfl, ho, hb⟩
    exact ⟨_, rfl, Held.of_own ho (exp_lt _ _ _) (Nat.le_refl _), hb⟩
  · unfold exp
    rw [if_neg h]
    refine (rexpand_bad A A2 n c n2 c2 x w (by omega)).mono ?_
    rintro e' w' ⟨rfl, rfl⟩
    exact ⟨_, rfl, Held.none _ _, Below.refl _ _⟩
theorem rlabel_told (s : ByteArray) (A A2 : Option Addr) (key b : List Nat) (n c nb cb : Nat) (x : Int) (w : World) (hR : Rd w w.heap.size A key) (hn : key.length = n) (hc : A = none → c = 0) (hm : n ≤ 20000)
    (hR2 : Rd w w.heap.size A2 b) (hn2 : b.length = nb) (hc2 : A2 = none → cb = 0) :
    Calls Tryd.prog 18 #[.slice A n c, .string s, .slice A2 nb cb, .int .i64 x] w (Told (lab key s b x) w) := by
  by_cases h : (0 ≤ x ∧ x ≤ 8160) ∧ s.size ≤ 40 ∧ nb ≤ 16000
  · obtain ⟨N, rfl⟩ := Int.eq_ofNat_of_zero_le h.1.1
    unfold lab
    rw [hn2, if_pos h, Int.toNat_natCast]
    refine (rlabel_any s A A2 key b n c nb cb N w hR hn hc hm hR2 hn2 hc2 (by omega) h.2.1 h.2.2).mono ?_
    rintro e' w' ⟨v, rfl, ho, hb⟩
    exact ⟨_, rfl, Held.of_own ho (exp_lt _ _ _) (Nat.le_refl _), hb⟩
  · unfold lab
    rw [hn2, if_neg h]
    refine (rlabel_bad s A A2 n c nb cb x w (by omega)).mono ?_
    rintro e' w' ⟨rfl, rfl⟩
    exact ⟨_, rfl, Held.none _ _, Below.refl _ _⟩
end Go.Proofs.YtfcnhendebjjeaaDoor.Sha
