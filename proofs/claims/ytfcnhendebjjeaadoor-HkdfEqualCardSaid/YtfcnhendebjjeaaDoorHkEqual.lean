/- Walks: HkdfEqual. -/
import Derived.Test.YtfcnhendebjjeaaDoorHkInfoPlain
import Derived.Test.YtfcnhendebjjeaaDoorHkParts
namespace Go.Proofs.YtfcnhendebjjeaaDoor.Sha
set_option linter.all false
open Go.RowKit Iter
attribute [local go_sem ↓] Go.wp_at_zero Go.wp_at_succ

/-- append, of any length that may be -/
theorem run_append_big {w : World} (base g n cap m c B : Nat) (ty : TypeId) (xs ys : List Nat) (A : Option Addr)
    (hown : w.ownsRow base 5 1 (.slice (some ⟨g, 0, none⟩) n cap) n (bcells xs)) (hR : Rd w B A ys) (hm : ys.length = m) (hc : A = none → c = 0) (hbd : n + m ≤ 140737488355328) (hbase : base ≤ w.heap.size) :
    ∃ g' cap' w', (Builtin.append_ #[22, 22] ty #[.slice (some ⟨g, 0, none⟩) n cap, .slice A m c]).run Tryd.prog w = .ok (.slice (some ⟨g', 0, none⟩) (n + m) cap') w' ∧
      w'.ownsRow base 5 1 (.slice (some ⟨g', 0, none⟩) (n + m) cap') (n + m) (bcells (xs ++ ys)) ∧ w.grownBy w' (some g) ∧ (g' = g ∨ g' = w.heap.size) := by
  obtain ⟨i, hi, hz, hsz, hby⟩ := byteInfo
  cases A with
  | none =>
    have h0 : m = 0 := by
      rcases Nat.eq_zero_or_pos m with h | h
      · exact h
      · obtain ⟨ad, e, _⟩ := hR.2 (by omega)
        cases e
    have hy : ys = [] := List.eq_nil_of_length_eq_zero (by omega)
    have hc0 := hc rfl
    subst h0 hy hc0
    exact ⟨g, cap, w, run_append_owned_none (P := Tryd.prog) (w := w) base 22 ty 5 i 1 Tryd.underlying22 hi _ n (bcells xs) hown, by simpa using hown, World.grownBy.refl _ _, .inl rfl⟩
  | some ad =>
    obtain ⟨v', w', hrun, h1, h2, h3, h4⟩ := run_append_own_at (P := Tryd.prog) w base 22 ty 5 i (.int .u8 0) 1 1 Tryd.underlying22 hi hz hsz hby rfl (by omega) _ n (bcells xs) hown ad m c (bcells ys) (by rw [bcells_len]; omega)
      (news_of_rd hR) (bcells_one ys) (by unfold maxLen; omega) (by omega) hbase
    rw [← bcells_append] at h1
    have hne : v' ≠ .slice none 0 0 := fun e => by have := (h3.1 e).1; cases this
    rcases h1.2 with ⟨e, _⟩ | ⟨g', cap', cur, e, _⟩
    · exact absurd e hne
    · subst e
      refine ⟨g', cap', w', hrun, h1, h2, ?_⟩
      rcases h4 with h4 | h4
      · exact .inl (Option.some.inj h4)
      · exact .inr (Option.some.inj h4)
theorem wpList_append_big {ops : Array Oper} {rest : List Oper} {o : Oper} {a : Act} {w : World} {Q : Exit → Act → World → Prop} (hw : Region.wanted o (yielded ops a.tmps) = true) (s x : Operand)
    (ho : o.op = .call { callee := .builtin .append, args := #[s, x], argTypes := #[22, 22] }) (base g n cap m c B : Nat) (xs ys : List Nat) (A : Option Addr)
    (hs : a.eval s = .slice (some ⟨g, 0, none⟩) n cap) (hx : a.eval x = .slice A m c)
    (hown : w.ownsRow base 5 1 (.slice (some ⟨g, 0, none⟩) n cap) n (bcells xs)) (hR : Rd w B A ys) (hm : ys.length = m) (hc : A = none → c = 0) (hbd : n + m ≤ 140737488355328) (hbase : base ≤ w.heap.size)
    (k : ∀ g' cap' w', w'.ownsRow base 5 1 (.slice (some ⟨g', 0, none⟩) (n + m) cap') (n + m) (bcells (xs ++ ys)) → w.grownBy w' (some g) → (g' = g ∨ g' = w.heap.size) → wpList Tryd.prog ops Q rest (a.put o.dst (.slice (some ⟨g', 0, none⟩) (n + m) cap')) w') :
    wpList Tryd.prog ops Q (o :: rest) a w := by
  obtain ⟨g', cap', w', hrun, h1, h2, h3⟩ := run_append_big base g n cap m c B o.type xs ys A hown hR hm hc hbd hbase
  unfold wpList
  rw [if_pos hw]
  refine .inl ?_
  unfold Oper.wp execOp
  simp only [ho, resolve, invoke, builtin, Sem.run_bind, Sem.run_pure, Result.andThen_ok, List.map_toArray, List.map_cons, List.map_nil, hs, hx, hrun]
  exact k g' cap' w' h1 h2 h3
/-- one byte of a row of one's own is another one -/
theorem own_set {w : World} {base g n cap : Nat} {xs : List Nat} (h : w.ownsRow base 5 1 (.slice (some ⟨g, 0, none⟩) n cap) n (bcells xs)) (k v : Nat) (hk : k < n) {z : Int} (hz : z = (v : Int)) :
    (w.setCell ⟨g, k, none⟩ (.int .u8 z)).ownsRow base 5 1 (.slice (some ⟨g, 0, none⟩) n cap) n (bcells (xs.set k v)) := by
  subst hz
  have hl : xs.length = n := by have := h.1; rw [bcells_len] at this; omega
  refine ⟨by rw [bcells_len, List.length_set]; omega, .inr ?_⟩
  rcases h.2 with ⟨e, _⟩ | ⟨g', c, cur, e, hb, hc, h1, h2, hs, ht⟩
  · cases e
  · injection e with e1 _ e3
    have e2 : (⟨g, 0, none⟩ : Addr) = ⟨g', 0, none⟩ := Option.some.inj e1
    injection e2 with e4
    subst e4 e3
    refine ⟨g, cap, cur.setIfInBounds k (.int .u8 (v : Int)), rfl, hb, ?_, h1, h2, by rw [Array.size_setIfInBounds]; exact hs, ?_⟩
    · rw [setCell_eq_setRow w g k cur 5 (0, 0) (.int .u8 (v : Int)) hc]
      exact setRow_heap w g _ _ 5 _ hc
    · rw [Array.toList_setIfInBounds, List.take_set, ht]
      unfold bcells
      rw [List.map_set]
theorem own_frozen {w : World} {base g n cap : Nat} {xs : List Value} (h : w.ownsRow base 5 1 (.slice (some ⟨g, 0, none⟩) n cap) n xs) (i : Nat) : w.frozen? ⟨g, i, none⟩ = false := by
  rcases h.2 with ⟨e, _⟩ | ⟨g', c, cur, e, hb, hc, _⟩
  · cases e
  · injection e with e1 _ _
    have e2 : (⟨g, 0, none⟩ : Addr) = ⟨g', 0, none⟩ := Option.some.inj e1
    injection e2 with e4
    subst e4
    simp [World.frozen?, hc]
theorem set_same {a : List Nat} {k y : Nat} (hk : k < a.length) : a = a.set k (gt a k ^^^ y) ↔ y = 0 := by
  constructor
  · intro h
    have := gt_set a k k (gt a k ^^^ y) hk
    rw [← h, if_pos rfl] at this
    have e : gt a k ^^^ (gt a k ^^^ y) = gt a k ^^^ gt a k := by rw [← this]
    rw [← Nat.xor_assoc, Nat.xor_self, Nat.zero_xor] at e
    exact e
  · intro h
    subst h
    rw [Nat.xor_zero]
    refine ext_gt (n := a.length) rfl (by rw [List.length_set]) fun i hi => ?_
    rw [gt_set _ _ _ _ hk]
    split
    · rename_i e; rw [e]
    · rfl
theorem Rd.drewN {w : World} {B : Nat} {A : Option Addr} {bs : List Nat} (h : Rd w B A bs) (m : Nat) : Rd (w.drewN m) B A bs := h.keep fun _ _ => rfl
theorem Below.drewN' {n : Nat} {w v : World} (h : Below n w v) (m : Nat) : Below n w (v.drewN m) := ⟨h.os, h.tape, h.output, h.size, h.block⟩

set_option maxHeartbeats 8000000 in
set_option maxRecDepth 100000 in
theorem equal_walk (A A2 : Option Addr) (a b : List Nat) (na nb ca cb N M : Nat) (w : World) (hT : Tables w) (hRa : Rd w w.heap.size A a) (hRb : Rd w w.heap.size A2 b) (hna : a.length = na) (hnb : b.length = nb)
    (hla : na ≤ ca) (hlb : nb ≤ cb) (hca : A = none → ca = 0) (hxa : ca ≤ 140737488351232) (hxb : cb ≤ 140737488351232) (hN : N < 256) (hM : M < 256) :
    Calls Tryd.prog 4 #[.slice A na ca, .slice A2 nb cb, .int .u8 N, .int .u8 M] w fun e w' => e = .returned (.bool true) ∧ Below w.heap.size w w' := by
  have HT := Lib.hid hT; have HRa := Lib.hid hRa; have HRb := Lib.hid hRb; have HNa := Lib.hid (fun _ : Unit => hna); have HNb := Lib.hid (fun _ : Unit => hnb); have HCa := Lib.hid hca
  clear hT hRa hRb hna hnb hca
  have x1 : IntKind.i64.wrap (N : Int) = (N : Int) := by rw [IntKind.wrap_i64]; omega
  go_enter Tryd.func4, Tryd.ntmps4
  go_wp2_with fail
  refine (head_any _ HT.out).mono ?_
  rintro e' w1 ⟨rfl, hB1⟩
  have HB1 := Lib.hid hB1; clear hB1 HT
  go_wp2_with fail
  refine region_calm ?_
  refine wp_region_any (by kernel_rfl) ?_
  change wpAny _ _ _ _ _ _ _ (World.drew _)
  replace HB1 := Lib.hid HB1.out.drew
  generalize w1.drew = wd at *
  have hsd := HB1.out.size
  have HRad := Lib.hid ((HRa.out.below HB1.out).more hsd)
  have HRbd := Lib.hid ((HRb.out.below HB1.out).more hsd)
  have HCNV : Hid (∀ m, ((convert 22 9 (.slice A na ca)).run Tryd.prog (wd.drewN m) = .ok (.string (txt a)) (wd.drewN m)) ∧ ((convert 22 9 (.slice A2 nb cb)).run Tryd.prog (wd.drewN m) = .ok (.string (txt b)) (wd.drewN m))) := Lib.hid fun m => ⟨conv_rd (HRad.out.drewN m) (HNa.out ()), conv_rd (HRbd.out.drewN m) (HNb.out ())⟩
  have HS0 : Hid (((convert 22 9 (.slice A na ca)).run Tryd.prog wd = .ok (.string (txt a)) wd) ∧ ((convert 22 9 (.slice A2 nb cb)).run Tryd.prog wd = .ok (.string (txt b)) wd)) := HCNV.out 0 |> Lib.hid
  obtain ⟨q, hq⟩ : ∃ q, decide (a = b) = q := ⟨_, rfl⟩
  have hq2 : ((txt a).toList == (txt b).toList) = q := by
    by_cases e : a = b
    · rw [← hq, decide_eq_true e, beq_iff_eq, e]
    · rw [← hq, decide_eq_false e, beq_eq_false_iff_ne]; exact str_tl fun e' => e ((txt_inj HRa.out.1 HRb.out.1).1 e')
  refine wpAny_of_held (S := fun w' => ((convert 22 9 (.slice A na ca)).run Tryd.prog w' = .ok (.string (txt a)) w') ∧ ((convert 22 9 (.slice A2 nb cb)).run Tryd.prog w' = .ok (.string (txt b)) w')) _ _ _ _ ?_
  refine wpAnyH_take (i := 0) (v := ?v0n1) rfl (by kernel_rfl) (by kernel_rfl) (by kernel_rfl) (fun _ _ _ h => h) (Or.inl ⟨by rfl, ?y0n1⟩) HS0.out ?r0n1
  case y0n1 => (intro w' hSw; clear hSw; go_simp; try with_reducible rfl)
  simp only [List.getElem_toArray, List.getElem_cons_succ, List.getElem_cons_zero, Act.put, List.setIfInBounds_toArray, List.set_cons_zero, List.set_cons_succ]
  refine wpAnyH_take (i := 1) (v := ?v1n2) rfl (by kernel_rfl) (by kernel_rfl) (by kernel_rfl) (fun _ _ _ h => h) (Or.inl ⟨by rfl, ?y1n2⟩) HS0.out ?r1n2
  case y1n2 => (intro w' hSw; clear hSw; go_simp; try with_reducible rfl)
  simp only [List.getElem_toArray, List.getElem_cons_succ, List.getElem_cons_zero, Act.put, List.setIfInBounds_toArray, List.set_cons_zero, List.set_cons_succ]
  refine wpAnyH_take (i := 3) (v := ?v3n3) rfl (by kernel_rfl) (by kernel_rfl) (by kernel_rfl) (fun _ _ _ h => h) (Or.inl ⟨by rfl, ?y3n3⟩) HS0.out ?r3n3
  case y3n3 => (intro w' hSw; clear hSw; go_simp; try with_reducible rfl)
  simp only [List.getElem_toArray, List.getElem_cons_succ, List.getElem_cons_zero, Act.put, List.setIfInBounds_toArray, List.set_cons_zero, List.set_cons_succ]
  refine wpAnyH_take (i := 5) (v := ?v5n4) rfl (by kernel_rfl) (by kernel_rfl) (by kernel_rfl) (fun _ _ _ h => h) (Or.inl ⟨by rfl, ?y5n4⟩) HS0.out ?r5n4
  case y5n4 => (intro w' hSw; clear hSw; go_simp; try with_reducible rfl)
  simp only [List.getElem_toArray, List.getElem_cons_succ, List.getElem_cons_zero, Act.put, List.setIfInBounds_toArray, List.set_cons_zero, List.set_cons_succ]
  refine wpAnyH_take (i := 4) (v := ?v4n5) rfl (by kernel_rfl) (by kernel_rfl) (by kernel_rfl) (fun _ _ _ h => h) (Or.inl ⟨by rfl, ?y4n5⟩) HS0.out ?r4n5
  case y4n5 => (intro w' hSw; obtain ⟨s1, s2⟩ := hSw; go_simp; try with_reducible rfl)
  simp only [List.getElem_toArray, List.getElem_cons_succ, List.getElem_cons_zero, Act.put, List.setIfInBounds_toArray, List.set_cons_zero, List.set_cons_succ]
  refine wpAnyH_take (i := 6) (v := ?v6n6) rfl (by kernel_rfl) (by kernel_rfl) (by kernel_rfl) (fun _ _ _ h => h) (Or.inl ⟨by rfl, ?y6n6⟩) HS0.out ?r6n6
  case y6n6 => (intro w' hSw; obtain ⟨s1, s2⟩ := hSw; go_simp; try with_reducible rfl)
  simp only [List.getElem_toArray, List.getElem_cons_succ, List.getElem_cons_zero, Act.put, List.setIfInBounds_toArray, List.set_cons_zero, List.set_cons_succ]
  refine wpAnyH_take (i := 7) (v := (.bool q)) rfl (by kernel_rfl) (by kernel_rfl) (by kernel_rfl) (fun _ _ _ h => h) (Or.inl ⟨by rfl, ?y7n7⟩) HS0.out ?r7n7
  case y7n7 => (intro w' hSw; clear hSw; go_simp; first | done | (rw [hq2]))
  simp only [List.getElem_toArray, List.getElem_cons_succ, List.getElem_cons_zero, Act.put, List.setIfInBounds_toArray, List.set_cons_zero, List.set_cons_succ]
  refine wpAnyH_ready (rs := [2]) (by kernel_rfl) (by simp) ?_
  refine AllReadyH.cons rfl (fun K hK => ?_) AllReadyH.nil
  simp only [List.getElem_toArray, List.getElem_cons_succ, List.getElem_cons_zero]
  go_simp
  refine (equal_any A A2 a b na ca nb cb wd HRad.out (HNa.out ()) HRbd.out (HNb.out ()) (by omega) (by omega)).mono ?_
  rintro e' w2 ⟨rfl, m2, rfl⟩
  rw [hq]
  refine hK.out _ _ (HCNV.out m2) (fun _ => ?_)
  clear hK K
  try simp only [List.getElem_toArray, List.getElem_cons_succ, List.getElem_cons_zero, Act.put, List.setIfInBounds_toArray, List.set_cons_zero, List.set_cons_succ]
  have HB2 := Lib.hid (Below.drewN' HB1.out m2)
  have HS2 := Lib.hid (HCNV.out m2)
  refine wpAnyH_take (i := 8) (v := (.bool false)) rfl (by kernel_rfl) (by kernel_rfl) (by kernel_rfl) (fun _ _ _ h => h) (Or.inl ⟨by rfl, ?y8n8⟩) HS2.out ?r8n8
  case y8n8 => (intro w' hSw; clear hSw; go_simp; first | done | (cases q <;> rfl))
  simp only [List.getElem_toArray, List.getElem_cons_succ, List.getElem_cons_zero, Act.put, List.setIfInBounds_toArray, List.set_cons_zero, List.set_cons_succ]
  refine wpAnyH_take (i := 9) (v := ?v9n9) rfl (by kernel_rfl) (by kernel_rfl) (by kernel_rfl) (fun _ _ _ h => h) (Or.inl ⟨by rfl, ?y9n9⟩) HS2.out ?r9n9
  case y9n9 => (intro w' hSw; clear hSw; go_simp; try with_reducible rfl)
  simp only [List.getElem_toArray, List.getElem_cons_succ, List.getElem_cons_zero, Act.put, List.setIfInBounds_toArray, List.set_cons_zero, List.set_cons_succ]
  refine wpAnyH_take (i := 10) (v := ?v10n10) rfl (by kernel_rfl) (by kernel_rfl) (by kernel_rfl) (fun _ _ _ h => h) (Or.inl ⟨by rfl, ?y10n10⟩) HS2.out ?r10n10
  case y10n10 => (intro w' hSw; clear hSw; go_simp; try with_reducible rfl)
  simp only [List.getElem_toArray, List.getElem_cons_succ, List.getElem_cons_zero, Act.put, List.setIfInBounds_toArray, List.set_cons_zero, List.set_cons_succ]
  refine wpAnyH_take (i := 11) (v := ?v11n11) rfl (by kernel_rfl) (by kernel_rfl) (by kernel_rfl) (fun _ _ _ h => h) (Or.inl ⟨by rfl, ?y11n11⟩) HS2.out ?r11n11
  case y11n11 => (intro w' hSw; clear hSw; go_simp; try with_reducible rfl)
  simp only [List.getElem_toArray, List.getElem_cons_succ, List.getElem_cons_zero, Act.put, List.setIfInBounds_toArray, List.set_cons_zero, List.set_cons_succ]
  refine wpAnyH_ready (rs := [12]) (by kernel_rfl) (by simp) ?_
  refine AllReadyH.cons rfl (fun K hK => ?_) AllReadyH.nil
  simp only [List.getElem_toArray, List.getElem_cons_succ, List.getElem_cons_zero]
  go_simp
  refine (equal_any A A a a na ca na ca (wd.drewN m2) (HRad.out.drewN m2) (HNa.out ()) (HRad.out.drewN m2) (HNa.out ()) (by omega) (by omega)).mono ?_
  rintro e' w3 ⟨rfl, m3, rfl⟩
  rw [show decide (a = a) = true from decide_eq_true rfl]
  refine hK.out _ _ ⟨conv_rd ((HRad.out.drewN m2).drewN m3) (HNa.out ()), conv_rd ((HRbd.out.drewN m2).drewN m3) (HNb.out ())⟩ (fun _ => ?_)
  clear hK K
  try simp only [List.getElem_toArray, List.getElem_cons_succ, List.getElem_cons_zero, Act.put, List.setIfInBounds_toArray, List.set_cons_zero, List.set_cons_succ]
  refine wpAnyH_take (i := 13) (v := ?v13n12) rfl (by kernel_rfl) (by kernel_rfl) (by kernel_rfl) (fun _ _ _ h => h) (Or.inl ⟨by rfl, ?y13n12⟩) ⟨conv_rd ((HRad.out.drewN m2).drewN m3) (HNa.out ()), conv_rd ((HRbd.out.drewN m2).drewN m3) (HNb.out ())⟩ ?r13n12
  case y13n12 => (intro w' hSw; clear hSw; go_simp; try with_reducible rfl)
  simp only [List.getElem_toArray, List.getElem_cons_succ, List.getElem_cons_zero, Act.put, List.setIfInBounds_toArray, List.set_cons_zero, List.set_cons_succ]
  refine wpAnyH_take (i := 14) (v := ?v14n13) rfl (by kernel_rfl) (by kernel_rfl) (by kernel_rfl) (fun _ _ _ h => h) (Or.inl ⟨by rfl, ?y14n13⟩) ⟨conv_rd ((HRad.out.drewN m2).drewN m3) (HNa.out ()), conv_rd ((HRbd.out.drewN m2).drewN m3) (HNb.out ())⟩ ?r14n13
  case y14n13 => (intro w' hSw; clear hSw; go_simp; try with_reducible rfl)
  simp only [List.getElem_toArray, List.getElem_cons_succ, List.getElem_cons_zero, Act.put, List.setIfInBounds_toArray, List.set_cons_zero, List.set_cons_succ]
  refine wpAnyH_done (by kernel_rfl) ?_ _
  change Exit.then _ _ Exit.normal _ _
  have HB3 := Lib.hid (Below.drewN' HB2.out m3)
  clear hq hq2 HS0 HS2 HCNV HRad HRbd HB2 HB1
  generalize (wd.drewN m2).drewN m3 = w3 at *
  have hs3 := HB3.out.size
  have HNIL := Lib.hid (nil_own w3 (base := w3.heap.size) (Nat.le_refl _))
  have HB3a := Lib.hid (HB3.out.alloc hs3 (.cells #[] 5))
  have HRa3 := Lib.hid (HRa.out.below HB3a.out)
  have HC3a := Lib.hid ((Below.refl w3.heap.size w3).alloc (Nat.le_refl _) (.cells #[] 5))
  go_wp2_with (at_builtin; refine wpList_append_big rfl (.tmp 27) (.tmp 28) rfl w3.heap.size w3.heap.size 0 0 na ca w.heap.size [] a A rfl rfl HNIL.out HRa3.out (HNa.out ()) HCa.out (by omega) (by simp) ?_)
  intro g4 cap4 w4 hown hgrow hat
  try simp only [Nat.zero_add, List.nil_append] at hown
  have HO4 := Lib.hid hown; have HB4 := Lib.hid (below_of_only HB3a.out hgrow hs3); have HC4 := Lib.hid (below_of_only HC3a.out hgrow (Nat.le_refl _))
  clear hown hgrow hat HNIL HB3a HRa3 HC3a
  have hs4 := HB4.out.size
  have hg4 := (HO4.out.lt _ rfl).2
  by_cases hn0 : na = 0
  · have HLT := Lib.hid HRa.out.1
    have HLN : Hid (a.length = na) := Lib.hid (HNa.out ())
    have hg4' : w.heap.size ≤ g4 := Nat.le_trans hs3 (HO4.out.lt _ rfl).1
    have HDE : Hid (Unit → decide (a = a) = true) := Lib.hid fun _ => decide_eq_true rfl
    subst hn0
    go_wp2_with fail
    refine (equal_any A (some ⟨g4, 0, none⟩) a a 0 ca 0 cap4 w4 ((HRa.out.below HB4.out).more HB4.out.size) (HNa.out ()) (rd_of_own HO4.out HLT.out (Nat.le_refl _)) HLN.out (by omega) (by omega)).mono ?_
    rintro e' w6 ⟨rfl, m6, rfl⟩
    rw [show decide (a = a) = true from decide_eq_true rfl]
    have HB6 := Lib.hid (Below.drewN' HB4.out m6)
    have HC6 := Lib.hid (Below.drewN' HC4.out m6)
    have HO6 : Hid (((w4).drewN m6).ownsRow w3.heap.size 5 1 (.slice (some ⟨g4, 0, none⟩) 0 cap4) 0 (bcells a)) := Lib.hid (own_kept HO4.out rfl)
    generalize (w4).drewN m6 = w6 at *
    have hs6 := HC6.out.size
    have HBy := Lib.hid (byte_rd w6 0 0 rfl (by omega) (B := w6.heap.size + 1) (by omega))
    have HO6a := Lib.hid (own_below HO6.out ((Below.refl w6.heap.size w6).alloc (Nat.le_refl _) (.cells #[.int .u8 0] 5)) (Nat.le_refl _))
    have HB6a := Lib.hid (HB6.out.alloc HB6.out.size (.cells #[.int .u8 0] 5))
    go_wp2_with (at_builtin; refine wpList_append_big rfl (.tmp 66) (.tmp 67) rfl w3.heap.size g4 0 cap4 1 1 (w6.heap.size + 1) a [0] (some ⟨w6.heap.size, 0, none⟩) rfl rfl HO6a.out HBy.out rfl (fun e => by cases e) (by omega) (by simp; omega) ?_)
    intro g7 cap7 w7 hown hgrow hat
    have HO7 := Lib.hid hown; have HB7 := Lib.hid (below_of_only HB6a.out hgrow (by omega))
    clear hown hgrow hat
    have HLT7 := Lib.hid (gt_append_lt HLT.out (gt_lt_of_mem (a := [0]) (by decide)))
    have HNE : Hid (Unit → decide (a = a ++ [0]) = false) := Lib.hid fun _ => decide_eq_false (by
      intro e
      have h1 := congrArg List.length e
      have h3 := HLN.out
      have h4 := HNa.out ()
      have h2 : ([0] : List Nat).length = 1 := rfl
      rw [List.length_append] at h1
      omega)
    go_wp2_with fail
    refine (equal_any A (some ⟨g7, 0, none⟩) a (a ++ [0]) 0 ca (0 + 1) cap7 w7 ((HRa.out.below HB7.out).more HB7.out.size) (HNa.out ()) (rd_of_own HO7.out HLT7.out (Nat.le_refl _)) (by rw [List.length_append, HLN.out]; rfl) (by omega) (by omega)).mono ?_
    rintro e' w8 ⟨rfl, m8, rfl⟩
    rw [HNE.out ()]
    have HB8 := Lib.hid (Below.drewN' HB7.out m8)
    go_wp2
    go_ret
    exact ⟨rfl, HB8.out⟩
  · have y0 : (0 : Int) < (na : Int) := by omega
    obtain ⟨k, hk⟩ : ∃ k, N % na = k := ⟨_, rfl⟩
    have hkn : k < na := by rw [← hk]; exact Nat.mod_lt _ (by omega)
    have xk : Int.tmod (N : Int) (na : Int) = (k : Int) := by rw [← Int.ofNat_tmod, hk]
    have xw : IntKind.i64.wrap (k : Int) = (k : Int) := by rw [IntKind.wrap_i64]; omega
    have xz : ¬ (na : Int) = 0 := by omega
    have xz2 : ((na : Int) == 0) = false := by rw [beq_eq_false_iff_ne]; omega
    have xz3 : ¬ na = 0 := hn0
    have yk : (k : Int) < (na : Int) := by omega
    clear hk
    have c0 : w4.cell? ⟨g4, k, none⟩ = some (.int .u8 (gt a k : Nat)) := by
      rw [HO4.out.cellAt k (by omega), bcells_at a k (by rw [HNa.out ()]; exact hkn)]
    have f0 := own_frozen HO4.out k
    have hx := xor_bits8 (HRa.out.1 k) hM
    go_wp2_with fail
    go_region
    have HO5 := Lib.hid (own_set HO4.out k (gt a k ^^^ M) hkn (z := ((gt a k ^^^ M : Nat) : Int)) rfl).drew
    have HB5 := Lib.hid (Below.drew (HB4.out.setCell (p := ⟨g4, k, none⟩) (by show w.heap.size ≤ g4; exact Nat.le_trans hs3 (HO4.out.lt _ rfl).1) (.int .u8 ((gt a k ^^^ M : Nat) : Int))))
    have HC5 := Lib.hid (Below.drew (HC4.out.setCell (p := ⟨g4, k, none⟩) (HO4.out.lt _ rfl).1 (.int .u8 ((gt a k ^^^ M : Nat) : Int))))
    have hg4' : w.heap.size ≤ g4 := Nat.le_trans hs3 (HO4.out.lt _ rfl).1
    generalize World.drew _ = w5 at *
    have HDE : Hid (Unit → decide (a = a.set k (gt a k ^^^ M)) = decide (M = 0)) := Lib.hid fun _ => decide_eq_decide.2 (set_same (by rw [HNa.out ()]; exact hkn))
    have HLT : Hid (∀ j, gt (a.set k (gt a k ^^^ M)) j < 256) := Lib.hid fun j => by
      rw [gt_set _ _ _ _ (by rw [HNa.out ()]; exact hkn)]
      split
      · exact xor256 (HRa.out.1 k) hM
      · exact HRa.out.1 j
    have HLN : Hid ((a.set k (gt a k ^^^ M)).length = na) := Lib.hid (by rw [List.length_set]; exact HNa.out ())
    obtain ⟨L, hL⟩ : ∃ L, a.set k (gt a k ^^^ M) = L := ⟨_, rfl⟩
    rw [hL] at HO5 HDE HLT HLN
    clear hL c0 f0 hx xk xw yk HO4 HB4 HC4 hs4 hg4
    by_cases hM0 : M = 0
    · rw [decide_eq_true hM0] at HDE
      subst hM0
      go_wp2_with fail
      refine (equal_any A (some ⟨g4, 0, none⟩) a L na ca na cap4 w5 ((HRa.out.below HB5.out).more HB5.out.size) (HNa.out ()) (rd_of_own HO5.out HLT.out (Nat.le_refl _)) HLN.out (by omega) (by omega)).mono ?_
      rintro e' w6 ⟨rfl, m6, rfl⟩
      rw [HDE.out ()]
      have HB6 := Lib.hid (Below.drewN' HB5.out m6)
      have HC6 := Lib.hid (Below.drewN' HC5.out m6)
      have HO6 : Hid (((w5).drewN m6).ownsRow w3.heap.size 5 1 (.slice (some ⟨g4, 0, none⟩) na cap4) na (bcells L)) := Lib.hid (own_kept HO5.out rfl)
      generalize (w5).drewN m6 = w6 at *
      have hs6 := HC6.out.size
      have HBy := Lib.hid (byte_rd w6 0 0 rfl (by omega) (B := w6.heap.size + 1) (by omega))
      have HO6a := Lib.hid (own_below HO6.out ((Below.refl w6.heap.size w6).alloc (Nat.le_refl _) (.cells #[.int .u8 0] 5)) (Nat.le_refl _))
      have HB6a := Lib.hid (HB6.out.alloc HB6.out.size (.cells #[.int .u8 0] 5))
      go_wp2_with (at_builtin; refine wpList_append_big rfl (.tmp 66) (.tmp 67) rfl w3.heap.size g4 na cap4 1 1 (w6.heap.size + 1) L [0] (some ⟨w6.heap.size, 0, none⟩) rfl rfl HO6a.out HBy.out rfl (fun e => by cases e) (by omega) (by simp; omega) ?_)
      intro g7 cap7 w7 hown hgrow hat
      have HO7 := Lib.hid hown; have HB7 := Lib.hid (below_of_only HB6a.out hgrow (by omega))
      clear hown hgrow hat
      have HLT7 := Lib.hid (gt_append_lt HLT.out (gt_lt_of_mem (a := [0]) (by decide)))
      have HNE : Hid (Unit → decide (a = L ++ [0]) = false) := Lib.hid fun _ => decide_eq_false (by
        intro e
        have h1 := congrArg List.length e
        have h3 := HLN.out
        have h4 := HNa.out ()
        have h2 : ([0] : List Nat).length = 1 := rfl
        rw [List.length_append] at h1
        omega)
      go_wp2_with fail
      refine (equal_any A (some ⟨g7, 0, none⟩) a (L ++ [0]) na ca (na + 1) cap7 w7 ((HRa.out.below HB7.out).more HB7.out.size) (HNa.out ()) (rd_of_own HO7.out HLT7.out (Nat.le_refl _)) (by rw [List.length_append, HLN.out]; rfl) (by omega) (by omega)).mono ?_
      rintro e' w8 ⟨rfl, m8, rfl⟩
      rw [HNE.out ()]
      have HB8 := Lib.hid (Below.drewN' HB7.out m8)
      go_wp2
      go_ret
      exact ⟨rfl, HB8.out⟩
    · rw [decide_eq_false hM0] at HDE
      have yM : ((M : Int) == 0) = false := by rw [beq_eq_false_iff_ne]; omega
      have yM2 : ¬ (M : Int) = 0 := by omega
      go_wp2_with fail
      refine (equal_any A (some ⟨g4, 0, none⟩) a L na ca na cap4 w5 ((HRa.out.below HB5.out).more HB5.out.size) (HNa.out ()) (rd_of_own HO5.out HLT.out (Nat.le_refl _)) HLN.out (by omega) (by omega)).mono ?_
      rintro e' w6 ⟨rfl, m6, rfl⟩
      rw [HDE.out ()]
      have HB6 := Lib.hid (Below.drewN' HB5.out m6)
      have HC6 := Lib.hid (Below.drewN' HC5.out m6)
      have HO6 : Hid (((w5).drewN m6).ownsRow w3.heap.size 5 1 (.slice (some ⟨g4, 0, none⟩) na cap4) na (bcells L)) := Lib.hid (own_kept HO5.out rfl)
      generalize (w5).drewN m6 = w6 at *
      have hs6 := HC6.out.size
      have HBy := Lib.hid (byte_rd w6 0 0 rfl (by omega) (B := w6.heap.size + 1) (by omega))
      have HO6a := Lib.hid (own_below HO6.out ((Below.refl w6.heap.size w6).alloc (Nat.le_refl _) (.cells #[.int .u8 0] 5)) (Nat.le_refl _))
      have HB6a := Lib.hid (HB6.out.alloc HB6.out.size (.cells #[.int .u8 0] 5))
      go_wp2_with (at_builtin; refine wpList_append_big rfl (.tmp 66) (.tmp 67) rfl w3.heap.size g4 na cap4 1 1 (w6.heap.size + 1) L [0] (some ⟨w6.heap.size, 0, none⟩) rfl rfl HO6a.out HBy.out rfl (fun e => by cases e) (by omega) (by simp; omega) ?_)
      intro g7 cap7 w7 hown hgrow hat
      have HO7 := Lib.hid hown; have HB7 := Lib.hid (below_of_only HB6a.out hgrow (by omega))
      clear hown hgrow hat
      have HLT7 := Lib.hid (gt_append_lt HLT.out (gt_lt_of_mem (a := [0]) (by decide)))
      have HNE : Hid (Unit → decide (a = L ++ [0]) = false) := Lib.hid fun _ => decide_eq_false (by
        intro e
        have h1 := congrArg List.length e
        have h3 := HLN.out
        have h4 := HNa.out ()
        have h2 : ([0] : List Nat).length = 1 := rfl
        rw [List.length_append] at h1
        omega)
      go_wp2_with fail
      refine (equal_any A (some ⟨g7, 0, none⟩) a (L ++ [0]) na ca (na + 1) cap7 w7 ((HRa.out.below HB7.out).more HB7.out.size) (HNa.out ()) (rd_of_own HO7.out HLT7.out (Nat.le_refl _)) (by rw [List.length_append, HLN.out]; rfl) (by omega) (by omega)).mono ?_
      rintro e' w8 ⟨rfl, m8, rfl⟩
      rw [HNE.out ()]
      have HB8 := Lib.hid (Below.drewN' HB7.out m8)
      go_wp2
      go_ret
      exact ⟨rfl, HB8.out⟩

theorem hkdfEqual_walk (a0 : Option Addr) (len0 cap0 : Nat) (z0 : List Int) (a1 : Option Addr) (len1 cap1 : Nat) (z1 : List Int) (a2 : Int) (a3 : Int) (w : World) (hT : Tables w) (b0 : cap0 ≤ 140737488351232) (b1 : cap1 ≤ 140737488351232) (w0 : IsRow .u8 w a0 len0 cap0 z0) (w1 : IsRow .u8 w a1 len1 cap1 z1) (w2 : (Lit.int .u8 a2).wf = true) (w3 : (Lit.int .u8 a3).wf = true) :
    Calls Tryd.prog 4 #[.slice a0 len0 cap0, .slice a1 len1 cap1, .int .u8 a2, .int .u8 a3] w fun e w' => e = .returned (.bool true) ∧ Below w.heap.size w w' := by
  obtain ⟨r0, n0, m0, c0, x0⟩ := rd_of_row w0
  obtain ⟨r1, n1, m1, c1, x1⟩ := rd_of_row w1
  obtain ⟨k2, rfl, h2⟩ := byte_of_wf w2
  obtain ⟨k3, rfl, h3⟩ := byte_of_wf w3
  exact equal_walk a0 a1 _ _ len0 len1 cap0 cap1 k2 k3 w hT r0 r1 n0 n1 m0 m1 x0 b0 b1 h2 h3

end Go.Proofs.YtfcnhendebjjeaaDoor.Sha
