/- Walks: Encode. -/
import Derived.Test.YtdkhiooiakdecaaDoorRKpWalkF
import Derived.Test.YtdkhiooiakdecaaDoorRKecKit
import Derived.Laws.OwnMore
import Derived.OwnWalk
namespace Go.Proofs.YtdkhiooiakdecaaDoorR.Kp
set_option linter.all false
open Go.RowKit Iter Sm
attribute [local go_sem] Oper.semAt_some

theorem run_append_fit {w : World} (base g n cap m c B : Nat) (ty : TypeId) (xs ys : List Nat) (ad : Addr) (hown : w.ownsRow base 5 1 (.slice (some ⟨g, 0, none⟩) n cap) n (Kec.bcells xs))
    (hR : Kec.Rd w B (some ad) ys) (hm : ys.length = m) (hfit : n + m ≤ cap) :
    ∃ w', (Builtin.append_ #[22, 22] ty #[.slice (some ⟨g, 0, none⟩) n cap, .slice (some ad) m c]).run Tryd.prog w = .ok (.slice (some ⟨g, 0, none⟩) (n + m) cap) w' ∧
      w'.ownsRow base 5 1 (.slice (some ⟨g, 0, none⟩) (n + m) cap) (n + m) (Kec.bcells (xs ++ ys)) ∧ w.grownBy w' (some g) := by
  obtain ⟨i, hi, hz, hsz, hby⟩ := Kec.byteInfo
  obtain ⟨w', h1, h2, h3⟩ := run_append_fits (P := Tryd.prog) w base 22 ty 5 i 1 Tryd.underlying22 hi hsz g n cap (Kec.bcells xs) hown ad m c (Kec.bcells ys) (by rw [Kec.bcells_len]; omega) (Kec.news_of_rd hR) (Kec.bcells_one ys) hfit
  exact ⟨w', h1, by rw [Kec.bcells_append]; exact h2, h3⟩
theorem wp_append_fit {o : Oper} {a : Act} {w : World} {K : Act → World → Prop} {Q : Exit → Act → World → Prop} (s x : Operand)
    (ho : o.op = .call { callee := .builtin .append, args := #[s, x], argTypes := #[22, 22] }) (base g n cap m c B : Nat) (xs ys : List Nat) (ad : Addr)
    (hs : a.eval s = .slice (some ⟨g, 0, none⟩) n cap) (hx : a.eval x = .slice (some ad) m c)
    (hown : w.ownsRow base 5 1 (.slice (some ⟨g, 0, none⟩) n cap) n (Kec.bcells xs)) (hR : Kec.Rd w B (some ad) ys) (hm : ys.length = m) (hfit : n + m ≤ cap)
    (k : ∀ w', w'.ownsRow base 5 1 (.slice (some ⟨g, 0, none⟩) (n + m) cap) (n + m) (Kec.bcells (xs ++ ys)) → w.grownBy w' (some g) → K (a.put o.dst (.slice (some ⟨g, 0, none⟩) (n + m) cap)) w') :
    Oper.wp Tryd.prog o a w K Q := by
  obtain ⟨w', hrun, h1, h2⟩ := run_append_fit base g n cap m c B o.type xs ys ad hown hR hm hfit
  unfold Oper.wp execOp
  simp only [ho, resolve, invoke, builtin, Sem.run_bind, Sem.run_pure, Result.andThen_ok, List.map_toArray, List.map_cons, List.map_nil, hs, hx, hrun]
  exact k w' h1 h2
theorem own_kept {w w' : World} {base g n cap : Nat} {xs : List Value} (h : w.ownsRow base 5 1 (.slice (some ⟨g, 0, none⟩) n cap) n xs) (e : w'.heap[g]? = w.heap[g]?) : w'.ownsRow base 5 1 (.slice (some ⟨g, 0, none⟩) n cap) n xs := by
  refine ⟨h.1, ?_⟩
  rcases h.2 with ⟨e1, _⟩ | ⟨g', c, cur, e1, hb, hc, rest⟩
  · cases e1
  · injection e1 with e2 _ e6
    have e3 : (⟨g, 0, none⟩ : Addr) = ⟨g', 0, none⟩ := Option.some.inj e2
    injection e3 with e4
    subst e4 e6
    exact .inr ⟨g, cap, cur, rfl, hb, e.trans hc, rest⟩
theorem byte_rd (w : World) (z : Int) (x : Nat) (hz : z = (x : Int)) (hx : x < 256) {B : Nat} (hB : w.heap.size < B) : Kec.Rd (w.alloc (.cells #[.int .u8 z] 5)) B (some ⟨w.heap.size, 0, none⟩) [x] := by
  subst hz
  refine ⟨Kec.gt_lt_of_mem (by intro v hv; simp only [List.mem_cons, List.not_mem_nil, or_false] at hv; rw [hv]; exact hx), fun _ => ⟨_, rfl, hB, fun j hj => ?_⟩⟩
  have hj0 : j = 0 := by simp at hj; exact hj
  subst hj0
  show (w.alloc _).cell? ⟨w.heap.size, 0, none⟩ = _
  rw [cell_of_row _ _ 0 _ 5 (0, 0) (heap_alloc_last w _)]; rfl

/-- a polynomial's bytes -/
def encB (d : Nat) (p : Nat → Int) : List Nat := (List.range (32 * d)).map (grp 8 (num d (fun i => brv d (p i)) 256))
def encTo (d : Nat) (p : Nat → Int) (k : Nat) : List Nat := (List.range k).map (grp 8 (num d (fun i => brv d (p i)) 256))
theorem encTo_succ (d : Nat) (p : Nat → Int) (k : Nat) : encTo d p (k + 1) = encTo d p k ++ [grp 8 (num d (fun i => brv d (p i)) 256) k] := by
  unfold encTo; rw [List.range_succ, List.map_append]; rfl
theorem encB_len (d : Nat) (p : Nat → Int) : (encB d p).length = 32 * d := by simp [encB]
theorem encB_lt (d : Nat) (p : Nat → Int) : ∀ j, Kec.gt (encB d p) j < 256 := Kec.gt_lt_of_mem fun x hx => by
  unfold encB at hx
  obtain ⟨i, _, rfl⟩ := List.mem_map.1 hx
  exact grp_lt 8 _ _
/-- between two rounds -/
structure EncI (g B N : Nat) (bs : List Nat) (w : World) (k : Nat) (W : World) : Prop where
  own : W.ownsRow w.heap.size 5 1 (.slice (some ⟨g, 0, none⟩) k N) k (Kec.bcells bs)
  box : W.rowIs B 22 1 (fun _ => .slice (some ⟨g, 0, none⟩) k N)
  below : Below w.heap.size w W
theorem EncI.kept {g B N M : Nat} {bs : List Nat} {w : World} {k : Nat} {W W' : World} (h : EncI g B N bs w k W) (hk : Kept (fun c => M ≤ c) W W') (h1 : g < M) (h2 : B < M) (hw : w.heap.size ≤ M) : EncI g B N bs w k W' :=
  ⟨own_kept h.own (hk.block g (h.own.lt g rfl).2 (by omega)), h.box.of_block (hk.block B h.box.lt (by omega)), hk.below h.below (fun i e => by omega) h.below.size⟩

set_option maxHeartbeats 4000000 in
set_option maxRecDepth 100000 in
theorem encode_ok (d : Nat) (cs : Array Value) (p : Nat → Int) (w : World) (hP : IsP cs p) (hF : Fits p) (h1 : 1 ≤ d) (h2 : d ≤ 12) :
    Calls Tryd.prog 19 #[.int .i64 d, .agg cs] w fun e w' => ∃ h, e = .returned (.slice (some ⟨h, 0, none⟩) (32 * d) (32 * d)) ∧ w'.ownsRow w.heap.size 5 1 (.slice (some ⟨h, 0, none⟩) (32 * d) (32 * d)) (32 * d) (Kec.bcells (encB d p)) ∧ Below w.heap.size w w' := by
  have hok : okEnc (d : Int) = true := by unfold okEnc; rw [decide_eq_true (by omega), decide_eq_true (by omega)]; rfl
  have HF := Lib.hid hF; have HP := Lib.hid hP; have HOK := Lib.hid (fun _ : Unit => hok)
  clear hP hF hok
  obtain ⟨bi, hbi, hbz, hbs, hbb⟩ := Kec.byteInfo
  have HG0 := Lib.hid (heap_alloc_last w (.cells cs 26))
  have HB0 := Lib.hid ((Below.refl w.heap.size w).alloc (Nat.le_refl _) (.cells cs 26))
  have HI := Lib.hid (poly_sized HP.out)
  obtain ⟨N, hN⟩ : ∃ N, N = 32 * d := ⟨_, rfl⟩
  have HN := Lib.hid (fun _ : Unit => hN)
  have hN4 : N ≤ 384 := by omega
  have hN5 : N ≤ 32 * d := by omega
  have hN6 : 32 * d ≤ N := by omega
  rw [← hN]
  clear hN
  refine callsIn_wide.1 (callsIn_of_wp_marks (n := 0) Tryd.func19 rfl trivial (wpIn_wide.2 ?_) rfl)
  simp only [Tryd.ntmps19, List.size_toArray, List.length_cons, List.length_nil, Nat.reduceAdd, Nat.reduceSub, Array.replicate_succ, Array.replicate_zero, List.push_toArray, List.append_toArray, List.nil_append, List.cons_append]
  go_wp2_with fail
  refine (mayBeEncoded_any _ _).mono ?_
  rintro e' w1 ⟨rfl, rfl⟩
  rw [HOK.out ()]
  go_wp2_with (refine wpList_load_row rfl 26 (.tmp 3) rfl w.heap.size rfl 26 cs (0, 0) _ HG0.out Tryd.underlying26 rfl HI.out ?_)
  refine (brought_any d cs p _ HP.out HF.out h2).mono ?_
  rintro e' w1 ⟨ds, rfl, hD, hB1⟩
  have hq := (hB1.block w.heap.size (by simp)).trans HG0.out
  have HD := Lib.hid hD; have HQ := Lib.hid hq; have HB1 := Lib.hid (HB0.out.trans (hB1.mono HB0.out.size))
  have HI2 := Lib.hid (poly_sized hD); have HM := Lib.hid (show cs.size = ds.size by rw [HP.out.1, hD.1])
  clear hD hq hB1
  go_wp2_with (refine wpList_store_row rfl 26 (.tmp 3) (.tmp 12) rfl w.heap.size ds rfl rfl 26 cs HQ.out HI2.out HM.out HD.out.cells ?_)
  have HQ2 := Lib.hid (setRow_heap w1 w.heap.size _ ds 26 _ HQ.out)
  have HB2 := Lib.hid (below_setRow HB1.out (Nat.le_refl _) ds)
  generalize w1.setRow w.heap.size ds = w2 at *
  refine (encodedBytes_any d _ h2).mono ?_
  rintro e' w3 ⟨rfl, rfl⟩
  rw [← HN.out ()]
  go_wp2_with (at_make; refine wpList_make_own _ rfl (.const (.int .i64 0)) (.tmp 14) 22 rfl w.heap.size 5 bi (.int .u8 0) 1 Tryd.underlying22 hbi hbz hbs .i64 .i64 (N : Int) N rfl rfl rfl (by rw [hbb]; omega) (by unfold maxLen; omega) HB2.out.size ?_)
  intro w4 hown hgrow
  have HO4 := Lib.hid hown
  have hlt4 := (hown.lt _ rfl).2
  have HB4 := Lib.hid (HB2.out.grown hgrow HB2.out.size (fun k e => by cases e))
  have HQ4 := Lib.hid ((hgrow.block w.heap.size (Array.getElem?_eq_some_iff.1 HQ2.out).1 (by simp)).trans HQ2.out)
  clear hown hgrow
  obtain ⟨G, hG⟩ : ∃ G, w2.heap.size = G := ⟨_, rfl⟩
  have hGw : w.heap.size < G := by rw [← hG]; exact (Array.getElem?_eq_some_iff.1 HQ2.out).1
  rw [hG] at HO4 hlt4
  rw [hG]
  clear hG HQ2 HB2 HB1 HQ HG0 HB0
  go_wp2_with fail
  obtain ⟨B, hBe⟩ : ∃ B, w4.heap.size = B := ⟨_, rfl⟩
  have hbx := heap_alloc_last w4 (.cells #[.slice (some ⟨G, 0, none⟩) 0 N] 22)
  have hb45 := (Below.refl w4.heap.size w4).alloc (Nat.le_refl _) (.cells #[.slice (some ⟨G, 0, none⟩) 0 N] 22)
  have hs5 : (w4.alloc (.cells #[.slice (some ⟨G, 0, none⟩) 0 N] 22)).heap.size = B + 1 := by rw [← hBe]; simp
  rw [hBe] at hbx hlt4
  rw [hBe]
  obtain ⟨w5, hw5⟩ : ∃ w5, w4.alloc (.cells #[.slice (some ⟨G, 0, none⟩) 0 N] 22) = w5 := ⟨_, rfl⟩
  rw [hw5] at hbx hb45 hs5
  rw [hw5]
  have HE0 : Hid (EncI G B N (encTo d p 0) w 0 w5) := Lib.hid ⟨own_kept HO4.out (hb45.block G (by rw [hBe]; exact hlt4)), ⟨_, hbx, rfl, fun i hi => by obtain rfl : i = 0 := (by omega); rfl⟩, HB4.out.trans (hb45.mono HB4.out.size)⟩
  have HQ5 := Lib.hid ((hb45.block w.heap.size (by omega)).trans HQ4.out)
  have HS5 := Lib.hid hs5; have HB : Hid (w.heap.size < B) := Lib.hid (by omega)
  clear hbx hb45 hw5 HO4 HB4 HQ4 hBe hs5
  refine (regi_any (some ⟨w.heap.size, 0, none⟩) 256 256 d 8 _).mono ?_
  rintro e' w6 ⟨rfl, hw6⟩
  obtain ⟨b1, b2, b3, b4, b5⟩ := three_boxes w5 (.slice (some ⟨w.heap.size, 0, none⟩) 256 256) (.int .i64 d) (.int .i64 8) 51 3 3
  rw [← hw6] at b1 b2 b3 b4 b5
  have HI6 : Hid (EncI G B N (encTo d p 0) w 0 w6) := Lib.hid (HE0.out.kept (M := w5.heap.size) (Kept.of_below b5) (by have := HS5.out; omega) (by have := HS5.out; omega) HE0.out.below.size)
  have hr6 := row_of ((b5.block w.heap.size (by have := HS5.out; omega)).trans HQ5.out) HD.out
  have HR6 : Hid (Rn w6 w6.heap.size (some ⟨w.heap.size, 0, none⟩) (fun i => brv d (p i)) 256) := Lib.hid fun _ => ⟨⟨w.heap.size, 0, none⟩, rfl, by have := HS5.out; show w.heap.size < _; omega, fun j hj => by
    have ha : (⟨w.heap.size, 0, none⟩ : Addr).add j = ⟨w.heap.size, j, none⟩ := by unfold Addr.add; split <;> simp_all
    rw [ha, hr6.cell hj]; rfl⟩
  have B1 := Lib.hid b1; have B2 := Lib.hid b2; have B3 := Lib.hid b3; have B4 := Lib.hid b4
  have hcnt : d * 256 / 8 = N := by rw [HN.out ()]; omega
  have HCNT := Lib.hid (fun _ : Unit => hcnt)
  clear hw6 hr6 b1 b2 b3 b4 b5 hcnt HE0 HQ5
  go_wp2_with fail
  refine wpIn_wide.1 (wp_range_n (P := Tryd.prog) (gf := 46) (lb := #[.pointer (some ⟨w5.heap.size, 0, none⟩), .pointer (some ⟨w5.heap.size + 1, 0, none⟩), .pointer (some ⟨w5.heap.size + 2, 0, none⟩)]) rfl (enters_of Tryd.func46 (by kernel_rfl) rfl)
    (fun k => k = G ∨ k = B) (fun k e => by have := HS5.out; have := B4.out; rcases e with e | e <;> omega)
    (regi_hands w5.heap.size (w5.heap.size + 1) (w5.heap.size + 2) (some ⟨w.heap.size, 0, none⟩) (fun i => brv d (p i)) 256 256 d _ w6 (fun k e => by have := HS5.out; have := B4.out; exact ⟨by omega, by omega, by omega, by omega, fun ad' e' => by cases e'; show k ≠ w.heap.size; omega⟩) h1 h2 B1.out B2.out B3.out HR6.out (fun i => brv_lt d (p i)) (by omega))
    (fun x => rfl) (fun k W => EncI G B N (encTo d p k) w k W) (fun _ _ _ => False)
    (fun k A B h hk => by have := HS5.out; have := B4.out; have := h.below.size; exact h.kept hk (by omega) (by omega) (by omega)) (fun c k A B h hk => h) HI6.out
    (fun k => { tmps := #[.int .i64 d, .agg cs, undef, .pointer (some ⟨w.heap.size, 0, none⟩), .slice none 0 0, .pointer (some ⟨B, 0, none⟩), .int .i64 ((grp 8 (num d (fun i => brv d (p i)) 256) k : Nat) : Int), .int .i64 d, .bool true, .bool false, .int .i64 d, .agg cs, .agg ds, .int .i64 d, .int .i64 N, .slice (some ⟨G, 0, none⟩) 0 N, .slice (some ⟨w.heap.size, 0, none⟩) 256 256, .int .i64 d, .func (.func 46) #[] #[.pointer (some ⟨w5.heap.size, 0, none⟩), .pointer (some ⟨w5.heap.size + 1, 0, none⟩), .pointer (some ⟨w5.heap.size + 2, 0, none⟩)], .int .i64 ((grp 8 (num d (fun i => brv d (p i)) 256) k : Nat) : Int), undef, undef, undef, undef, undef, undef], defers := [] }) ?assign ?body ?done ?stop)
  case assign =>
    intro l x W K hK
    gi_wp2
    exact hK
  case body =>
    intro l k W hk hszW hI
    have HI := Lib.hid hI
    have hkN : k < N := by rw [HCNT.out ()] at hk; exact hk
    have c0 := hI.box.cell (i := 0) (by omega)
    clear hI hk
    have HX := Lib.hid (fun _ : Unit => encTo_succ d p k)
    have hlt := grp_lt 8 (num d (fun i => brv d (p i)) 256) k
    obtain ⟨x, hx⟩ : ∃ x, grp 8 (num d (fun i => brv d (p i)) 256) k = x := ⟨_, rfl⟩
    rw [hx] at HX hlt
    rw [hx]
    clear hx
    have xk : IntKind.u8.wrap (x : Int) = (x : Int) := by rw [IntKind.wrap_u8]; omega
    have hbl := HI.out.box.lt
    have HRd := Lib.hid (byte_rd W (x : Int) x rfl hlt (B := W.heap.size + 1) (by omega))
    have HOa := Lib.hid (own_kept HI.out.own (Below.heap_alloc W (.cells #[.int .u8 x] 5) G (HI.out.own.lt G rfl).2))
    gi_wp2_with (refine wpListIn_of_wp (plain_round _ l) rfl (fun c e => by cases e) (fun K hK => wp_append_fit (.tmp 20) (.tmp 23) rfl w.heap.size G k N 1 1 (W.heap.size + 1) (encTo d p k) [x] ⟨W.heap.size, 0, none⟩ rfl rfl HOa.out HRd.out rfl (by omega) ?_))
    intro w' ho' hg'
    refine hK _ _ ?_
    clear hK K
    have hgb : G < B := hlt4
    have hbox : w'.rowIs B 22 1 (fun _ => .slice (some ⟨G, 0, none⟩) k N) := (HI.out.box.alloc _).of_block (hg'.block B (by simp; omega) (by intro e; injection e; omega))
    have c1 := hbox.cell (i := 0) (by omega)
    have f1 := hbox.frozen 0
    have hka : Kept (fun c => c = G ∨ c = B) W w' := (Kept.alloc W _).trans (Kept.of_grown hg' (fun r e => by cases e; exact .inl rfl))
    have hbl' : Below w.heap.size w w' := hka.below HI.out.below (fun i e => by have := HB.out; omega) HI.out.below.size
    have HO' := Lib.hid ho'; have HBX := Lib.hid hbox; have HKA := Lib.hid hka; have HBL := Lib.hid hbl'
    clear ho' hg' hbox hka hbl' c0
    gi_wp2
    refine ⟨HKA.out.trans (Kept.set w' ⟨B, 0, none⟩ _ (.inr rfl)), ⟨?_, ?_, HBL.out.setCell (p := ⟨B, 0, none⟩) (by have := HB.out; show w.heap.size ≤ B; omega) _⟩⟩
    · rw [HX.out ()]
      exact own_kept HO'.out (Below.heap_setCell w' ⟨B, 0, none⟩ _ G (by show G ≠ B; omega))
    · refine (HBX.out.set 0 _).congr fun i hi => ?_
      obtain rfl : i = 0 := (by omega)
      rfl
  case done =>
    intro W hI hD
    rw [HCNT.out ()] at hI
    have HI := Lib.hid hI; have HD := Lib.hid hD
    have c0 := hI.box.cell (i := 0) (by omega)
    clear hI hD
    rename_i K hK
    refine hK _ _ ?_
    clear hK K
    go_wp2
    have hl5 := HS5.out; have hl4 := B4.out; have hlb := HB.out
    refine ⟨by simp, .inl ⟨_, _, rfl, run_takeDeferred HD.out, ?_⟩⟩
    refine ⟨_, results_tmp rfl _ _ _, ?_⟩
    have hpb := (Below.refl w.heap.size W).grown (grownBy_putObj' W w6.heap.size (.deferred none)) HI.out.below.size (fun k e => by cases e; omega)
    refine ⟨G, rfl, own_kept ?_ (World.putObj_heap_other (by omega)), HI.out.below.trans hpb⟩
    have := HI.out.own
    rwa [show encTo d p N = encB d p by unfold encTo encB; rw [HN.out ()]] at this
  case stop =>
    intro c k W _ h _
    exact h.elim
end Go.Proofs.YtdkhiooiakdecaaDoorR.Kp
