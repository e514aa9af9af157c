/- Plain mathematics of the document's own sponge: its words lie the other way about. Walks of the document's own: turned, turns, constants. Walks of the document's own: constants. Walks of the document's own: change. -/
import Derived.Test.YtfhibjpkbbbfpaaDoorKecM2
import Derived.KernelRfl
import Derived.Test.YtfhibjpkbbbfpaaDoorKecM3
import Derived.Laws.DeepNot64
import Derived.Deep.RegionHeld3
import Derived.IntWalk
namespace Go.Proofs.YtfhibjpkbbbfpaaDoor.Kec
set_option linter.all false

/-- word x, y at 5 x + y, where the program has it at x + 5 y -/
def tp (ws : List Nat) : List Nat := tab fun p => gt ws (p / 5 + 5 * (p % 5))
theorem ok_tp {ws : List Nat} (h : Ok ws) : Ok (tp ws) := ok_tab _ fun _ _ => h.2 _
theorem gt_tp (ws : List Nat) (i : Nat) (h : i < 25) : gt (tp ws) (5 * (i % 5) + i / 5) = gt ws i := by
  unfold tp
  rw [gt_tab _ _ (by omega)]
  congr 1
  omega
theorem tp_set {ws : List Nat} (hl : ws.length = 25) (i v : Nat) (h : i < 25) : (tp ws).set (5 * (i % 5) + i / 5) v = tp (ws.set i v) := by
  refine ext25 (by simp [tp, tab]) (tab_len _) fun p hp => ?_
  rw [gt_set _ _ _ _ (by rw [tp, tab_len]; omega)]
  unfold tp
  rw [gt_tab _ _ hp, gt_tab _ _ hp, gt_set _ _ _ _ (by omega)]
  by_cases e : p = 5 * (i % 5) + i / 5
  · rw [if_pos e, if_pos (by omega)]
  · rw [if_neg e, if_neg (by omega)]

def rcol (us : List Nat) (x : Nat) : Nat := (((gt us (x * 5) ^^^ gt us (x * 5 + 1)) ^^^ gt us (x * 5 + 2)) ^^^ gt us (x * 5 + 3)) ^^^ gt us (x * 5 + 4)
theorem rcol_lt {us : List Nat} (h : Ok us) (x : Nat) : rcol us x < 18446744073709551616 :=
  xor_lt (xor_lt (xor_lt (xor_lt (h.2 _) (h.2 _)) (h.2 _)) (h.2 _)) (h.2 _)
def rdcol (us : List Nat) (x : Nat) : Nat := rcol us ((x + 4) % 5) ^^^ rotl (rcol us ((x + 1) % 5)) 1
theorem rdcol_lt {us : List Nat} (h : Ok us) (x : Nat) : rdcol us x < 18446744073709551616 := xor_lt (rcol_lt h _) (rotl_lt _ _ (rcol_lt h _))

/-- where its turns walk, and what they lay -/
def xyTo : Nat → Nat × Nat
  | 0 => (1, 0)
  | n + 1 => ((xyTo n).2, (2 * (xyTo n).1 + 3 * (xyTo n).2) % 5)
theorem xy_lt : ∀ n, (xyTo n).1 < 5 ∧ (xyTo n).2 < 5
  | 0 => ⟨by decide, by decide⟩
  | n + 1 => ⟨(xy_lt n).2, Nat.mod_lt _ (by omega)⟩
def trTo : Nat → List Nat
  | 0 => zeros
  | n + 1 => (trTo n).set ((xyTo n).1 * 5 + (xyTo n).2) ((n + 1) * (n + 2) / 2 % 64)
theorem trTo_len : ∀ n, (trTo n).length = 25
  | 0 => tab_len _
  | n + 1 => by simp [trTo, trTo_len n]
def rturns : List Nat := tp turnsT
theorem trTo_all : trTo 24 = rturns := by decide +kernel
theorem rturns_lt (i : Nat) (h : i < 25) : gt rturns i < 64 := (by decide +kernel : ∀ i : Fin 25, gt rturns i.1 < 64) ⟨i, h⟩
theorem rturns_len : rturns.length = 25 := tab_len _

/-- its constants: what is shifted, and what is laid, behind n steps -/
def rcShift (r : Nat) : Nat := if 256 ≤ r * 2 then (r * 2) ^^^ 369 else r * 2
def rcTo : Nat → Nat
  | 0 => 1
  | n + 1 => rcShift (rcTo n)
theorem rc_lt : ∀ n, rcTo n < 256
  | 0 => by decide
  | n + 1 => by
    have h := rc_lt n
    show rcShift (rcTo n) < 256
    have all : ∀ r : Fin 256, rcShift r.1 < 256 := by decide +kernel
    exact all ⟨_, h⟩
def rlStep (l : List Nat) (n : Nat) : List Nat := if rcTo n % 2 = 1 then l.set (n / 7) (gt l (n / 7) ||| 2 ^ (2 ^ (n % 7) - 1)) else l
def zeros24 : List Nat := (List.range 24).map fun _ => 0
def rlTo : Nat → List Nat
  | 0 => zeros24
  | n + 1 => rlStep (rlTo n) n
theorem rlTo_len : ∀ n, (rlTo n).length = 24
  | 0 => by simp [rlTo, zeros24]
  | n + 1 => by
    show (rlStep (rlTo n) n).length = 24
    unfold rlStep
    split
    · simp [rlTo_len n]
    · exact rlTo_len n
theorem rlTo_all : rlTo 168 = roundsT := by decide +kernel

/-- what its second loop lays -/
def rbAt (us : List Nat) (n : Nat) : Nat := rotl (gt us n ^^^ rdcol us (n / 5)) (gt rturns n)
def rplace (n : Nat) : Nat := n % 5 * 5 + (2 * (n / 5) + 3 * (n % 5)) % 5
def rbTo (us : List Nat) : Nat → List Nat
  | 0 => zeros
  | n + 1 => (rbTo us n).set (rplace n) (rbAt us n)
theorem rplace_lt (n : Nat) (h : n < 25) : rplace n < 25 := by unfold rplace; omega
theorem rbAt_lt {us : List Nat} (h : Ok us) (n : Nat) : rbAt us n < 18446744073709551616 := rotl_lt _ _ (xor_lt (h.2 _) (rdcol_lt h _))
theorem ok_rbTo {us : List Nat} (h : Ok us) : ∀ n, n ≤ 25 → Ok (rbTo us n)
  | 0, _ => ok_zeros
  | n + 1, hn => ok_set (ok_rbTo h n (by omega)) _ _ (rplace_lt n (by omega)) (rbAt_lt h n)
def rjw (b : List Nat) (p : Nat) : Nat := gt b p ^^^ (notw (gt b ((p / 5 + 1) % 5 * 5 + p % 5)) &&& gt b ((p / 5 + 2) % 5 * 5 + p % 5))
theorem rjw_lt {b : List Nat} (h : Ok b) (i : Nat) : rjw b i < 18446744073709551616 := xor_lt (h.2 _) (and_lt (h.2 _))
def rjoinTo (us b : List Nat) (k : Nat) : List Nat := tab fun i => if i < k then rjw b i else gt us i
theorem ok_rjoinTo {us b : List Nat} (h : Ok us) (hb : Ok b) (k : Nat) : Ok (rjoinTo us b k) := by
  refine ok_tab _ fun i _ => ?_
  split
  · exact rjw_lt hb _
  · exact h.2 _
theorem rjoinTo_zero {us b : List Nat} (h : Ok us) : rjoinTo us b 0 = us := by
  refine ext25 (tab_len _) h.1 fun i hi => ?_
  unfold rjoinTo; rw [gt_tab _ _ hi, if_neg (by omega)]
theorem rjoinTo_succ (us b : List Nat) (k : Nat) (hk : k < 25) : (rjoinTo us b k).set k (rjw b k) = rjoinTo us b (k + 1) := by
  refine ext25 (by simp [rjoinTo, tab]) (tab_len _) fun i hi => ?_
  rw [gt_set _ _ _ _ (by rw [rjoinTo, tab_len]; exact hk)]
  unfold rjoinTo
  rw [gt_tab _ _ hi, gt_tab _ _ hi]
  by_cases e : i = k
  · subst e; simp
  · rw [if_neg e]
    by_cases h : i < k
    · rw [if_pos h, if_pos (by omega)]
    · rw [if_neg h, if_neg (by omega)]
def rround (us : List Nat) (c : Nat) : List Nat := (rjoinTo us (rbTo us 25) 25).set 0 (gt (rjoinTo us (rbTo us 25) 25) 0 ^^^ c)
def rchangeTo (us : List Nat) : Nat → List Nat
  | 0 => us
  | n + 1 => rround (rchangeTo us n) (gt roundsT n)
theorem ok_rround {us : List Nat} (h : Ok us) (c : Nat) (hc : c < 18446744073709551616) : Ok (rround us c) :=
  ok_set (ok_rjoinTo h (ok_rbTo h 25 (Nat.le_refl _)) _) _ _ (by omega) (xor_lt ((ok_rjoinTo h (ok_rbTo h 25 (Nat.le_refl _)) _).2 _) hc)
theorem ok_rchangeTo {us : List Nat} (h : Ok us) : ∀ n, n ≤ 24 → Ok (rchangeTo us n)
  | 0, _ => h
  | n + 1, hn => ok_rround (ok_rchangeTo h n (by omega)) _ (rounds_lt n (by omega))

theorem gt_tp' (ws : List Nat) (p : Nat) (h : p < 25) : gt (tp ws) p = gt ws (p / 5 + 5 * (p % 5)) := by unfold tp; rw [gt_tab _ _ h]
theorem rcol_tp (ws : List Nat) (x : Nat) (h : x < 5) : rcol (tp ws) x = col ws x := by
  unfold rcol col
  rw [gt_tp' _ _ (by omega), gt_tp' _ _ (by omega), gt_tp' _ _ (by omega), gt_tp' _ _ (by omega), gt_tp' _ _ (by omega)]
  rw [show x * 5 / 5 + 5 * (x * 5 % 5) = x by omega, show (x * 5 + 1) / 5 + 5 * ((x * 5 + 1) % 5) = x + 5 by omega, show (x * 5 + 2) / 5 + 5 * ((x * 5 + 2) % 5) = x + 10 by omega,
    show (x * 5 + 3) / 5 + 5 * ((x * 5 + 3) % 5) = x + 15 by omega, show (x * 5 + 4) / 5 + 5 * ((x * 5 + 4) % 5) = x + 20 by omega]
theorem rdcol_tp (ws : List Nat) (x : Nat) : rdcol (tp ws) x = dcol ws x := by
  unfold rdcol dcol
  rw [rcol_tp _ _ (Nat.mod_lt _ (by omega)), rcol_tp _ _ (Nat.mod_lt _ (by omega))]
/-- who comes to a place -/
def rfrom (q : Nat) : Nat := ((List.range 25).find? fun n => rplace n == q).getD 0
def pfrom (q : Nat) : Nat := ((List.range 25).find? fun n => gt placesT n == q).getD 0
theorem rfrom_iff (n q : Nat) (hn : n < 25) (hq : q < 25) : (q = rplace n) = (n = rfrom q) :=
  (by decide +kernel : ∀ (n q : Fin 25), (q.1 = rplace n.1) = (n.1 = rfrom q.1)) ⟨n, hn⟩ ⟨q, hq⟩
theorem pfrom_iff (n q : Nat) (hn : n < 25) (hq : q < 25) : (q = gt placesT n) = (n = pfrom q) :=
  (by decide +kernel : ∀ (n q : Fin 25), (q.1 = gt placesT n.1) = (n.1 = pfrom q.1)) ⟨n, hn⟩ ⟨q, hq⟩
theorem from_meet (p : Nat) (h : p < 25) : rfrom p < 25 ∧ pfrom (p / 5 + 5 * (p % 5)) < 25 ∧ rfrom p / 5 + 5 * (rfrom p % 5) = pfrom (p / 5 + 5 * (p % 5)) ∧ gt rturns (rfrom p) = gt turnsT (pfrom (p / 5 + 5 * (p % 5))) ∧ rfrom p / 5 = pfrom (p / 5 + 5 * (p % 5)) % 5 :=
  (by decide +kernel : ∀ p : Fin 25, rfrom p.1 < 25 ∧ pfrom (p.1 / 5 + 5 * (p.1 % 5)) < 25 ∧ rfrom p.1 / 5 + 5 * (rfrom p.1 % 5) = pfrom (p.1 / 5 + 5 * (p.1 % 5)) ∧ gt rturns (rfrom p.1) = gt turnsT (pfrom (p.1 / 5 + 5 * (p.1 % 5))) ∧ rfrom p.1 / 5 = pfrom (p.1 / 5 + 5 * (p.1 % 5)) % 5) ⟨p, h⟩
theorem gt_rbTo {us : List Nat} (h : Ok us) (q : Nat) (hq : q < 25) : ∀ n, n ≤ 25 → gt (rbTo us n) q = if rfrom q < n then rbAt us (rfrom q) else 0
  | 0, _ => by
    show gt zeros q = _
    rw [if_neg (by omega), zeros, gt_tab _ _ hq]
  | n + 1, hn => by
    show gt ((rbTo us n).set (rplace n) (rbAt us n)) q = _
    rw [gt_set _ _ _ _ (by rw [(ok_rbTo h n (by omega)).1]; exact rplace_lt n (by omega)), gt_rbTo h q hq n (by omega)]
    have e := rfrom_iff n q (by omega) hq
    by_cases hn' : n = rfrom q
    · rw [if_pos (e.symm ▸ hn'), if_pos (by omega), hn']
    · rw [if_neg (fun hh => hn' (e ▸ hh))]
      by_cases hlt : rfrom q < n
      · rw [if_pos hlt, if_pos (by omega)]
      · rw [if_neg hlt, if_neg (by omega)]
theorem gt_movedTo {ws : List Nat} (h : Ok ws) (q : Nat) (hq : q < 25) : ∀ n, n ≤ 25 → gt (movedTo ws n) q = if pfrom q < n then rotl (gt ws (pfrom q)) (gt turnsT (pfrom q)) else 0
  | 0, _ => by
    show gt zeros q = _
    rw [if_neg (by omega), zeros, gt_tab _ _ hq]
  | n + 1, hn => by
    show gt ((movedTo ws n).set (gt placesT n) (rotl (gt ws n) (gt turnsT n))) q = _
    rw [gt_set _ _ _ _ (by rw [(ok_movedTo h n (by omega)).1]; exact places_lt n (by omega)), gt_movedTo h q hq n (by omega)]
    have e := pfrom_iff n q (by omega) hq
    by_cases hn' : n = pfrom q
    · rw [if_pos (e.symm ▸ hn'), if_pos (by omega), hn']
    · rw [if_neg (fun hh => hn' (e ▸ hh))]
      by_cases hlt : pfrom q < n
      · rw [if_pos hlt, if_pos (by omega)]
      · rw [if_neg hlt, if_neg (by omega)]
theorem rbTo_tp {ws : List Nat} (h : Ok ws) : rbTo (tp ws) 25 = tp (moved (spread ws)) := by
  refine ext25 (ok_rbTo (ok_tp h) 25 (Nat.le_refl _)).1 (tab_len _) fun p hp => ?_
  obtain ⟨h1, h2, h3, h4, h5⟩ := from_meet p hp
  rw [gt_rbTo (ok_tp h) p hp 25 (Nat.le_refl _), if_pos h1, gt_tp' _ _ hp, moved, gt_movedTo (ok_spread h) _ (by omega) 25 (Nat.le_refl _), if_pos h2]
  unfold rbAt
  rw [gt_tp' _ _ h1, rdcol_tp, h3, h4, h5]
  unfold spread
  rw [gt_tab _ _ h2]
theorem ix1 (p : Nat) (hp : p < 25) : ((p / 5 + 1) % 5 * 5 + p % 5) / 5 + 5 * (((p / 5 + 1) % 5 * 5 + p % 5) % 5) = (p / 5 + 5 * (p % 5)) / 5 * 5 + ((p / 5 + 5 * (p % 5)) % 5 + 1) % 5 :=
  (by decide +kernel : ∀ p : Fin 25, ((p.1 / 5 + 1) % 5 * 5 + p.1 % 5) / 5 + 5 * (((p.1 / 5 + 1) % 5 * 5 + p.1 % 5) % 5) = (p.1 / 5 + 5 * (p.1 % 5)) / 5 * 5 + ((p.1 / 5 + 5 * (p.1 % 5)) % 5 + 1) % 5) ⟨p, hp⟩
theorem ix2 (p : Nat) (hp : p < 25) : ((p / 5 + 2) % 5 * 5 + p % 5) / 5 + 5 * (((p / 5 + 2) % 5 * 5 + p % 5) % 5) = (p / 5 + 5 * (p % 5)) / 5 * 5 + ((p / 5 + 5 * (p % 5)) % 5 + 2) % 5 :=
  (by decide +kernel : ∀ p : Fin 25, ((p.1 / 5 + 2) % 5 * 5 + p.1 % 5) / 5 + 5 * (((p.1 / 5 + 2) % 5 * 5 + p.1 % 5) % 5) = (p.1 / 5 + 5 * (p.1 % 5)) / 5 * 5 + ((p.1 / 5 + 5 * (p.1 % 5)) % 5 + 2) % 5) ⟨p, hp⟩
theorem rjw_tp (m : List Nat) (p : Nat) (hp : p < 25) : rjw (tp m) p = joinw m (p / 5 + 5 * (p % 5)) := by
  unfold rjw joinw
  rw [gt_tp' _ _ hp, gt_tp' _ _ (by omega), gt_tp' _ _ (by omega)]
  rw [ix1 p hp,
    ix2 p hp]
theorem round_at (ws : List Nat) (h : Ok ws) (c : Nat) (p : Nat) (hp : p < 25) : gt (rround (tp ws) c) p = gt (tp (round ws c)) p := by
  have hj : ∀ q, q < 25 → gt (rjoinTo (tp ws) (rbTo (tp ws) 25) 25) q = gt (join (moved (spread ws))) (q / 5 + 5 * (q % 5)) := fun q hq => by
    unfold rjoinTo join
    rw [gt_tab _ _ hq, if_pos hq, gt_tab _ _ (by omega), rbTo_tp h, rjw_tp _ _ hq]
  unfold rround
  rw [gt_set _ _ _ _ (by rw [rjoinTo, tab_len]; omega), gt_tp' _ _ hp]
  unfold round
  rw [gt_set _ _ _ _ (by rw [join, tab_len]; omega), hj p hp, hj 0 (by omega)]
  by_cases e : p = 0
  · subst e; rfl
  · rw [if_neg e, if_neg (by omega)]
theorem round_tp {ws : List Nat} (h : Ok ws) (c : Nat) (hc : c < 18446744073709551616) : rround (tp ws) c = tp (round ws c) :=
  ext25 (ok_rround (ok_tp h) c hc).1 (tab_len _) fun p hp => round_at ws h c p hp
theorem change_tp {ws : List Nat} (h : Ok ws) : ∀ n, n ≤ 24 → rchangeTo (tp ws) n = tp (changeTo ws n)
  | 0, _ => rfl
  | n + 1, hn => by
    show rround (rchangeTo (tp ws) n) (gt roundsT n) = tp (round (changeTo ws n) (gt roundsT n))
    rw [change_tp h n (by omega), round_tp (ok_changeTo h n (by omega)) _ (rounds_lt n (by omega))]

end Go.Proofs.YtfhibjpkbbbfpaaDoor.Kec

namespace Go.Proofs.YtfhibjpkbbbfpaaDoor.Kec
set_option linter.all false
open Go.RowKit

set_option maxHeartbeats 400000 in
theorem rturned_any (x k : Nat) (w : World) (hx : x < 18446744073709551616) (hk : k < 64) :
    Calls Tryd.prog 73 #[.int .u64 x, .int .i64 k] w fun e w' => e = .returned (.int .u64 (rotl x k : Nat)) ∧ ∃ n, w' = w.drewN n := by
  have hr := rotl_bits x k hx
  go_enter Tryd.func73, Tryd.ntmps73
  go_wp2
  go_quiet (fail)
  go_wp2
  go_ret
  exact ⟨rfl, _, rfl⟩

def nums (k : IntKind) (l : List Nat) : Nat → Value := fun i => .int k ((gt l i : Nat) : Int)
theorem heap_nums {w : World} {g n : Nat} {t : TypeId} {k : IntKind} {l : List Nat} (h : w.rowIs g t n (nums k l)) (hl : l.length = n) : w.heap[g]? = some (.cells (numsOf k l) t (0, 0)) := by
  obtain ⟨c, hc, hs, hi⟩ := h
  have e : c = numsOf k l := by
    apply Array.ext_getElem?
    intro i
    by_cases h : i < n
    · rw [hi i h, numsOf_at k l i (by omega)]; rfl
    · rw [Array.getElem?_eq_none (by omega), Array.getElem?_eq_none (by simp [numsOf]; omega)]
  rw [hc, e]
theorem rowIs_nums {w : World} {g n : Nat} {t : TypeId} {k : IntKind} {l : List Nat} (h : w.heap[g]? = some (.cells (numsOf k l) t (0, 0))) (hl : l.length = n) : w.rowIs g t n (nums k l) :=
  ⟨numsOf k l, h, by simp [numsOf, hl], fun i hi => numsOf_at k l i (by omega)⟩
theorem nums_set {w : World} {g n : Nat} {t : TypeId} {k : IntKind} {l : List Nat} (h : w.rowIs g t n (nums k l)) (hl : l.length = n) (i v : Nat) (hi : i < n) : (w.setCell ⟨g, i, none⟩ (.int k ((v : Nat) : Int))).rowIs g t n (nums k (l.set i v)) := by
  refine (h.set i _).congr fun j _ => ?_
  unfold nums
  rw [gt_set _ _ _ _ (by omega)]
  split <;> rfl
theorem numsOf_size (k : IntKind) (l : List Nat) : (numsOf k l).size = l.length := by simp [numsOf]
theorem numsOf_one (k : IntKind) (l : List Nat) : (numsOf k l).all (·.oneCell') = true := by simp [numsOf, Value.oneCell']

set_option maxHeartbeats 1000000 in
set_option maxRecDepth 100000 in
theorem rturns_any (w : World) : Calls Tryd.prog 71 #[] w fun e w' => e = .returned (.agg (numsOf .i64 rturns)) ∧ Below w.heap.size w w' := by
  go_enter Tryd.func71, Tryd.ntmps71
  go_wp2
  go_loopw [2, 3, 4] (fun x y i W => ∃ k : Nat, k ≤ 24 ∧ i = .int .i64 k ∧ x = .int .i64 ((xyTo k).1 : Nat) ∧ y = .int .i64 ((xyTo k).2 : Nat) ∧ Hid (W.rowIs (w.heap.size + 1) 95 25 (nums .i64 (trTo k))) ∧ Hid (W.rowIs w.heap.size 95 25 (nums .i64 zeros)) ∧ Hid (Below w.heap.size w W)) (fun _ _ i _ => 24 - (intOf i).toNat)
  case atStart =>
    have z : ∀ i, i < (numsOf .i64 zeros).size → (numsOf .i64 zeros)[i]? = some (nums .i64 zeros i) := fun i hi => numsOf_at .i64 zeros i (by simpa [numsOf] using hi)
    have r1 := World.rowIs_alloc w (numsOf .i64 zeros) 95 (nums .i64 zeros) z
    have r2 := World.rowIs_alloc (w.alloc (.cells (numsOf .i64 zeros) 95)) (numsOf .i64 zeros) 95 (nums .i64 zeros) z
    have e : (w.alloc (.cells (numsOf .i64 zeros) 95)).heap.size = w.heap.size + 1 := by simp
    rw [e] at r2
    exact ⟨0, by omega, rfl, rfl, rfl, Lib.hid r2, Lib.hid (r1.alloc _), Lib.hid (((Below.refl _ _).alloc (Nat.le_refl _) _).alloc (by simp) _)⟩
  case round =>
    obtain ⟨k, hk, rfl, rfl, rfl, HR1, HZ1, HB1⟩ := hrel
    by_cases hlt : k < 24
    · obtain ⟨hx, hy⟩ := xy_lt k
      have hnx : (xyTo (k + 1)).1 = (xyTo k).2 := rfl
      have hny : (xyTo (k + 1)).2 = (2 * (xyTo k).1 + 3 * (xyTo k).2) % 5 := rfl
      have htr : trTo (k + 1) = (trTo k).set ((xyTo k).1 * 5 + (xyTo k).2) ((k + 1) * (k + 2) / 2 % 64) := rfl
      generalize (xyTo k).1 = x at *
      generalize (xyTo k).2 = y at *
      have HNX := Lib.hid hnx; have HNY := Lib.hid hny; have HTR := Lib.hid htr; clear hnx hny htr
      have d0 := HR1.out.cell (i := x * 5 + y) (by omega)
      have d1 := HR1.out.frozen (x * 5 + y)
      have hb1 : ((k : Int) + 1) * ((k : Int) + 2) ≤ 1000 := by
        have h1 : ((k : Int) + 1) * ((k : Int) + 2) ≤ 25 * 26 := Int.mul_le_mul (by omega) (by omega) (by omega) (by omega)
        omega
      have hb0 : 0 ≤ ((k : Int) + 1) * ((k : Int) + 2) := Int.mul_nonneg (by omega) (by omega)
      go_wp2
      go_roundw
      case rel =>
        have hval : (((k : Int) + 1) * ((k : Int) + 2) / 2 % 64) = (((k + 1) * (k + 2) / 2 % 64 : Nat) : Int) := by simp
        have hnx : ((xyTo (k + 1)).1 : Int) = (y : Int) := by rw [HNX.out]
        have hny : ((xyTo (k + 1)).2 : Int) = (2 * (x : Int) + 3 * (y : Int)) % 5 := by rw [HNY.out]; simp
        refine ⟨k + 1, by omega, by go_num, by rw [hnx], by rw [hny], Lib.hid ?_, Lib.hid (HZ1.out.setOther (by show w.heap.size ≠ w.heap.size + 1; omega) _), Lib.hid (HB1.out.setCell (by show w.heap.size ≤ w.heap.size + 1; omega) _)⟩
        rw [HTR.out, hval]
        exact nums_set HR1.out (trTo_len k) _ _ (by omega)
      case measure => simp [intOf]; omega
    · obtain rfl : k = 24 := by omega
      have hl := rturns_len
      have h24 := trTo_all
      rw [h24] at HR1
      have hc := heap_nums HR1.out hl
      have hz := heap_nums HZ1.out ok_zeros.1
      generalize hm : rturns = m at *
      have hi : (Tryd.prog.info? 95).map (·.size) = some (numsOf .i64 m).size := by rw [numsOf_size, hl]; kernel_rfl
      have hzm : (numsOf .i64 zeros).size = (numsOf .i64 m).size := by rw [numsOf_size, numsOf_size, ok_zeros.1, hl]
      have HC := Lib.hid hc; have HZ := Lib.hid hz; have HZM := Lib.hid hzm; have HI := Lib.hid hi; have HM := Lib.hid hm; clear hc hz hl hi hzm h24 hm
      go_wp2_with (first | (refine wpList_load_row rfl 95 (.tmp 1) rfl (w.heap.size + 1) rfl 95 (numsOf .i64 m) (0, 0) _ HC.out Tryd.underlying95 rfl HI.out ?_) | (refine wpList_store_row rfl 95 (.tmp 0) (.tmp 29) rfl w.heap.size (numsOf .i64 m) rfl rfl 95 (numsOf .i64 zeros) HZ.out HI.out HZM.out (numsOf_one _ _) ?_))
      refine bodyPost_ret (v := .agg (numsOf .i64 m)) (results_cell_row (p := 0) (ty := 95) (by kernel_rfl) _ _ w.heap.size 95 (numsOf .i64 m) (0, 0) _ rfl (setRow_heap _ _ _ _ _ _ HZ.out) Tryd.underlying95 rfl HI.out) rfl ⟨by rw [HM.out], below_setRow HB1.out (Nat.le_refl _) _⟩

end Go.Proofs.YtfhibjpkbbbfpaaDoor.Kec

namespace Go.Proofs.YtfhibjpkbbbfpaaDoor.Kec
set_option linter.all false
open Go.RowKit

theorem i64_xor_small (a b : Nat) (ha : a < 1024) (hb : b < 1024) : bits .xor .i64 (a : Int) (b : Int) = ((a ^^^ b : Nat) : Int) := by
  have hx : a ^^^ b < 2 ^ 10 := Nat.xor_lt_two_pow (by omega) (by omega)
  have oa : (BitVec.ofInt 64 (a : Int)).toNat = a := by rw [BitVec.ofInt_natCast, BitVec.toNat_ofNat]; exact Nat.mod_eq_of_lt (by omega)
  have ob : (BitVec.ofInt 64 (b : Int)).toNat = b := by rw [BitVec.ofInt_natCast, BitVec.toNat_ofNat]; exact Nat.mod_eq_of_lt (by omega)
  show IntKind.i64.wrap ((BitVec.ofInt 64 (a : Int) ^^^ BitVec.ofInt 64 (b : Int)).toNat : Int) = _
  rw [BitVec.toNat_xor, oa, ob, IntKind.wrap_i64]
  omega

theorem xor369 (r : Nat) (h : r < 256) : bits .xor .i64 ((r : Int) * 2) 369 = (((r * 2) ^^^ 369 : Nat) : Int) := by
  have := i64_xor_small (r * 2) 369 (by omega) (by omega)
  rw [← this]; simp
theorem shl_one (j : Nat) (h : j < 7) : IntKind.u64.wrap ((2 : Int) ^ min (IntKind.u64.wrap (IntKind.u64.wrap ((2 : Int) ^ j) - 1)).toNat 64) = ((2 ^ (2 ^ j - 1) : Nat) : Int) :=
  (by decide +kernel : ∀ j : Fin 7, IntKind.u64.wrap ((2 : Int) ^ min (IntKind.u64.wrap (IntKind.u64.wrap ((2 : Int) ^ j.1) - 1)).toNat 64) = ((2 ^ (2 ^ j.1 - 1) : Nat) : Int)) ⟨j, h⟩
theorem pow_lt (j : Nat) (h : j < 7) : 2 ^ (2 ^ j - 1) < 18446744073709551616 :=
  (by decide +kernel : ∀ j : Fin 7, 2 ^ (2 ^ j.1 - 1) < 18446744073709551616) ⟨j, h⟩
def orw (x j : Nat) : Nat := x ||| 2 ^ (2 ^ j - 1)
theorem or_bits (x j : Nat) (hx : x < 18446744073709551616) (h : j < 7) : bits .or .u64 (x : Int) (IntKind.u64.wrap ((2 : Int) ^ min (IntKind.u64.wrap (IntKind.u64.wrap ((2 : Int) ^ j) - 1)).toNat 64)) = ((orw x j : Nat) : Int) := by
  rw [shl_one j h, u64_or_nat _ _ hx (pow_lt j h)]; rfl
theorem rl_lt : ∀ n i, gt (rlTo n) i < 18446744073709551616
  | 0, i => by
    show gt zeros24 i < _
    have : gt zeros24 i = 0 := by
      by_cases h : i < 24
      · unfold gt zeros24
        rw [List.getD_eq_getElem?_getD, List.getElem?_map, List.getElem?_range h]; rfl
      · exact gt_ge _ _ (by simp [zeros24]; omega)
    omega
  | n + 1, i => by
    show gt (rlStep (rlTo n) n) i < _
    unfold rlStep
    split
    · by_cases h : n / 7 < 24
      · rw [gt_set _ _ _ _ (by rw [rlTo_len]; exact h)]
        split
        · exact or_lt (rl_lt n _) (pow_lt _ (Nat.mod_lt _ (by omega)))
        · exact rl_lt n i
      · rw [List.set_eq_of_length_le (by rw [rlTo_len]; omega)]
        exact rl_lt n i
    · exact rl_lt n i

set_option maxHeartbeats 2000000 in
set_option maxRecDepth 100000 in
theorem rconsts_any (w : World) : Calls Tryd.prog 72 #[] w fun e w' => e = .returned (.agg (numsOf .u64 roundsT)) ∧ Below w.heap.size w w' := by
  go_enter Tryd.func72, Tryd.ntmps72
  go_wp2
  go_loopw [2, 3] (fun r i W => ∃ k : Nat, k ≤ 24 ∧ i = .int .i64 k ∧ r = .int .i64 (rcTo (7 * k) : Nat) ∧ Hid (W.rowIs (w.heap.size + 1) 97 24 (nums .u64 (rlTo (7 * k)))) ∧ Hid (W.rowIs w.heap.size 97 24 (nums .u64 zeros24)) ∧ Hid (Below w.heap.size w W)) (fun _ i _ => 24 - (intOf i).toNat)
  case atStart =>
    have z : ∀ i, i < (numsOf .u64 zeros24).size → (numsOf .u64 zeros24)[i]? = some (nums .u64 zeros24 i) := fun i hi => numsOf_at .u64 zeros24 i (by simpa [numsOf] using hi)
    have r1 := World.rowIs_alloc w (numsOf .u64 zeros24) 97 (nums .u64 zeros24) z
    have r2 := World.rowIs_alloc (w.alloc (.cells (numsOf .u64 zeros24) 97)) (numsOf .u64 zeros24) 97 (nums .u64 zeros24) z
    have e : (w.alloc (.cells (numsOf .u64 zeros24) 97)).heap.size = w.heap.size + 1 := by simp
    rw [e] at r2
    exact ⟨0, by omega, rfl, rfl, Lib.hid r2, Lib.hid (r1.alloc _), Lib.hid (((Below.refl _ _).alloc (Nat.le_refl _) _).alloc (by simp) _)⟩
  case round =>
    obtain ⟨k, hk, rfl, rfl, HR1, HZ1, HB1⟩ := hrel
    by_cases hlt : k < 24
    · go_wp2
      go_loopw [2, 4] (fun r i W => ∃ j : Nat, j ≤ 7 ∧ i = .int .i64 j ∧ r = .int .i64 (rcTo (7 * k + j) : Nat) ∧ Hid (W.rowIs (w.heap.size + 1) 97 24 (nums .u64 (rlTo (7 * k + j)))) ∧ Hid (W.rowIs w.heap.size 97 24 (nums .u64 zeros24)) ∧ Hid (Below w.heap.size w W)) (fun _ i _ => 7 - (intOf i).toNat)
      case atStart => exact ⟨0, by omega, rfl, rfl, HR1, HZ1, HB1⟩
      case round =>
        obtain ⟨j, hj, rfl, rfl, HR2, HZ2, HB2⟩ := hrel
        by_cases hlt7 : j < 7
        · have hrc := rc_lt (7 * k + j)
          have hnx : rcTo (7 * k + (j + 1)) = rcShift (rcTo (7 * k + j)) := rfl
          have hrl : rlTo (7 * k + (j + 1)) = if rcTo (7 * k + j) % 2 = 1 then (rlTo (7 * k + j)).set k (gt (rlTo (7 * k + j)) k ||| 2 ^ (2 ^ j - 1)) else rlTo (7 * k + j) := by
            show rlStep (rlTo (7 * k + j)) (7 * k + j) = _
            unfold rlStep
            rw [show (7 * k + j) / 7 = k by omega, show (7 * k + j) % 7 = j by omega]
          have hll := rlTo_len (7 * k + j)
          have hlt' := rl_lt (7 * k + j)
          generalize rcTo (7 * k + j) = r at *
          generalize rlTo (7 * k + j) = l at *
          have HNX := Lib.hid hnx; have HRL := Lib.hid hrl; have HLL := Lib.hid hll; have HLT := Lib.hid hlt'; clear hnx hrl hll hlt'
          have d0 : wr.cell? ⟨w.heap.size + 1, k, none⟩ = some (.int .u64 (gt l k : Nat)) := HR2.out.cell (i := k) hlt
          have d1 := HR2.out.frozen k
          have hor := or_bits (gt l k) j (HLT.out k) hlt7
          by_cases ho : r % 2 = 1
          · have ho' : ((r : Int) % 2 == 1) = true := by rw [beq_iff_eq]; omega
            have HO := Lib.hid ho; clear ho
            have HRL2 : Hid (rlTo (7 * k + (j + 1)) = l.set k (orw (gt l k) j)) := Lib.hid (by rw [HRL.out, if_pos HO.out]; rfl)
            go_wp2
            go_region
            go_wp2
            · go_roundw
              case rel =>
                have h256 : 256 ≤ r * 2 := by omega
                refine ⟨j + 1, by omega, by go_num, ?_, Lib.hid ?_, Lib.hid (HZ2.out.setOther (by show w.heap.size ≠ w.heap.size + 1; omega) _).drew, Lib.hid (HB2.out.setCell (by show w.heap.size ≤ w.heap.size + 1; omega) _).drew⟩
                · rw [HNX.out, rcShift, if_pos h256, xor369 r hrc]
                · rw [HRL2.out]; exact (nums_set HR2.out HLL.out k (orw (gt l k) j) hlt).drew
              case measure => simp [intOf]; omega
            · go_roundw
              case rel =>
                have h256 : ¬ 256 ≤ r * 2 := by omega
                refine ⟨j + 1, by omega, by go_num, ?_, Lib.hid ?_, Lib.hid (HZ2.out.setOther (by show w.heap.size ≠ w.heap.size + 1; omega) _).drew, Lib.hid (HB2.out.setCell (by show w.heap.size ≤ w.heap.size + 1; omega) _).drew⟩
                · rw [HNX.out, rcShift, if_neg h256]; simp
                · rw [HRL2.out]; exact (nums_set HR2.out HLL.out k (orw (gt l k) j) hlt).drew
              case measure => simp [intOf]; omega
          · have ho' : ((r : Int) % 2 == 1) = false := by rw [beq_eq_false_iff_ne]; omega
            have HO := Lib.hid ho; clear ho
            have HRL2 : Hid (rlTo (7 * k + (j + 1)) = l) := Lib.hid (by rw [HRL.out, if_neg HO.out])
            go_wp2
            · go_roundw
              case rel =>
                have h256 : 256 ≤ r * 2 := by omega
                refine ⟨j + 1, by omega, by go_num, ?_, Lib.hid ?_, HZ2, HB2⟩
                · rw [HNX.out, rcShift, if_pos h256, xor369 r hrc]
                · rw [HRL2.out]; exact HR2.out
              case measure => simp [intOf]; omega
            · go_roundw
              case rel =>
                have h256 : ¬ 256 ≤ r * 2 := by omega
                refine ⟨j + 1, by omega, by go_num, ?_, Lib.hid ?_, HZ2, HB2⟩
                · rw [HNX.out, rcShift, if_neg h256]; simp
                · rw [HRL2.out]; exact HR2.out
              case measure => simp [intOf]; omega
        · obtain rfl : j = 7 := by omega
          go_wp2
          go_roundw
          case rel => exact ⟨k + 1, by omega, by go_num, rfl, HR2, HZ2, HB2⟩
          case measure => simp [intOf]; omega
    · obtain rfl : k = 24 := by omega
      have h24 : rlTo (7 * 24) = roundsT := rlTo_all
      rw [h24] at HR1
      have hl : roundsT.length = 24 := by decide
      have hc := heap_nums HR1.out hl
      have hz := heap_nums HZ1.out (show zeros24.length = 24 by decide)
      generalize hm : roundsT = m at *
      have hi : (Tryd.prog.info? 97).map (·.size) = some (numsOf .u64 m).size := by rw [numsOf_size, hl]; kernel_rfl
      have hzm : (numsOf .u64 zeros24).size = (numsOf .u64 m).size := by rw [numsOf_size, numsOf_size, hl]; decide
      have HC := Lib.hid hc; have HZ := Lib.hid hz; have HZM := Lib.hid hzm; have HI := Lib.hid hi; have HM := Lib.hid hm; clear hc hz hl hi hzm h24 hm
      go_wp2_with (first | (refine wpList_load_row rfl 97 (.tmp 1) rfl (w.heap.size + 1) rfl 97 (numsOf .u64 m) (0, 0) _ HC.out Tryd.underlying97 rfl HI.out ?_) | (refine wpList_store_row rfl 97 (.tmp 0) (.tmp 32) rfl w.heap.size (numsOf .u64 m) rfl rfl 97 (numsOf .u64 zeros24) HZ.out HI.out HZM.out (numsOf_one _ _) ?_))
      refine bodyPost_ret (v := .agg (numsOf .u64 m)) (results_cell_row (p := 0) (ty := 97) (by kernel_rfl) _ _ w.heap.size 97 (numsOf .u64 m) (0, 0) _ rfl (setRow_heap _ _ _ _ _ _ HZ.out) Tryd.underlying97 rfl HI.out) rfl ⟨by rw [HM.out], below_setRow HB1.out (Nat.le_refl _) _⟩

end Go.Proofs.YtfhibjpkbbbfpaaDoor.Kec

namespace Go.Proofs.YtfhibjpkbbbfpaaDoor.Kec
set_option linter.all false
open Go.RowKit

theorem rcol_bits {us : List Nat} (h : Ok us) (x : Nat) :
    bits .xor .u64 (bits .xor .u64 (bits .xor .u64 (bits .xor .u64 ((gt us (x * 5) : Nat) : Int) ((gt us (x * 5 + 1) : Nat) : Int)) ((gt us (x * 5 + 2) : Nat) : Int)) ((gt us (x * 5 + 3) : Nat) : Int)) ((gt us (x * 5 + 4) : Nat) : Int) = ((rcol us x : Nat) : Int) := by
  rw [u64_xor_nat _ _ (h.2 _) (h.2 _), u64_xor_nat _ _ (xor_lt (h.2 _) (h.2 _)) (h.2 _), u64_xor_nat _ _ (xor_lt (xor_lt (h.2 _) (h.2 _)) (h.2 _)) (h.2 _), u64_xor_nat _ _ (xor_lt (xor_lt (xor_lt (h.2 _) (h.2 _)) (h.2 _)) (h.2 _)) (h.2 _)]
  rfl
theorem rdcol_bits {us : List Nat} (h : Ok us) (x : Nat) : bits .xor .u64 ((rcol us ((x + 4) % 5) : Nat) : Int) ((rotl (rcol us ((x + 1) % 5)) 1 : Nat) : Int) = ((rdcol us x : Nat) : Int) := by
  rw [u64_xor_nat _ _ (rcol_lt h _) (rotl_lt _ _ (rcol_lt h _))]; rfl
theorem rturned_one (x : Nat) (w : World) (hx : x < 18446744073709551616) :
    Calls Tryd.prog 73 #[.int .u64 x, .int .i64 1] w fun e w' => e = .returned (.int .u64 (rotl x 1 : Nat)) ∧ ∃ n, w' = w.drewN n := rturned_any x 1 w hx (by omega)
theorem rjw_bits {b : List Nat} (h : Ok b) (i x y z : Nat) (hx : i = x) (hy : (i / 5 + 1) % 5 * 5 + i % 5 = y) (hz : (i / 5 + 2) % 5 * 5 + i % 5 = z) :
    bits .xor .u64 ((gt b x : Nat) : Int) (bits .and .u64 (bits .xor .u64 (if IntKind.u64.signed = true then -1 else IntKind.u64.max) ((gt b y : Nat) : Int)) ((gt b z : Nat) : Int)) = ((rjw b i : Nat) : Int) := by
  have e : (if IntKind.u64.signed = true then -1 else IntKind.u64.max) = (18446744073709551615 : Int) := by decide
  rw [e, u64_not _ (h.2 _), u64_and_nat _ _ (notw_lt _) (h.2 _), u64_xor_nat _ _ (h.2 _) (and_lt (h.2 _))]
  unfold rjw
  rw [hy, hz, hx]
def rcolRow (us : List Nat) (k : Nat) : Nat → Value := fun x => if x < k then .int .u64 (rcol us x : Nat) else .int .u64 0
theorem rcolRow_succ {w : World} {g : Nat} {us : List Nat} {k : Nat} (h : w.rowIs g 82 5 (rcolRow us k)) : (w.setCell ⟨g, k, none⟩ (.int .u64 (rcol us k : Nat))).rowIs g 82 5 (rcolRow us (k + 1)) := by
  refine (h.set k _).congr fun i _ => ?_
  unfold rcolRow
  by_cases e : i = k
  · subst e; simp
  · by_cases h : i < k
    · simp [e, h, show i < k + 1 by omega]
    · simp [e, h, show ¬ i < k + 1 by omega]
/-- what the document's change has about it: its words, its result's place, its tables -/
structure RC (w W : World) (tB lB : Nat) (cur : List Nat) : Prop where
  words : W.rowIs w.heap.size 83 25 (wordRow cur)
  res : W.rowIs (w.heap.size + 1) 83 25 (wordRow zeros)
  turns : W.rowIs tB 95 25 (nums .i64 rturns)
  consts : W.rowIs lB 97 24 (nums .u64 roundsT)
  below : Below w.heap.size w W
  t2 : w.heap.size + 2 ≤ tB
  l2 : w.heap.size + 2 ≤ lB
section
variable {w W W' : World} {tB lB : Nat} {cur : List Nat}
theorem RC.drew (h : RC w W tB lB cur) : RC w W.drew tB lB cur := ⟨h.words, h.res, h.turns, h.consts, h.below.drew, h.t2, h.l2⟩
theorem RC.drewN (h : RC w W tB lB cur) (n : Nat) : RC w (W.drewN n) tB lB cur := ⟨h.words, h.res, h.turns, h.consts, ⟨h.below.os, h.below.tape, h.below.output, h.below.size, h.below.block⟩, h.t2, h.l2⟩
theorem RC.alloc (h : RC w W tB lB cur) (o : Obj) : RC w (W.alloc o) tB lB cur := ⟨h.words.alloc o, h.res.alloc o, h.turns.alloc o, h.consts.alloc o, h.below.alloc h.below.size o, h.t2, h.l2⟩
theorem RC.set (h : RC w W tB lB cur) {g i : Nat} (h1 : w.heap.size + 2 ≤ g) (h2 : g ≠ tB) (h3 : g ≠ lB) (v : Value) : RC w (W.setCell ⟨g, i, none⟩ v) tB lB cur :=
  ⟨h.words.setOther (by show w.heap.size ≠ g; omega) v, h.res.setOther (by show w.heap.size + 1 ≠ g; omega) v, h.turns.setOther (fun e => h2 e.symm) v, h.consts.setOther (fun e => h3 e.symm) v, h.below.setCell (by show w.heap.size ≤ g; omega) v, h.t2, h.l2⟩
theorem RC.word (h : RC w W tB lB cur) (hl : cur.length = 25) (i v : Nat) (hi : i < 25) : RC w (W.setCell ⟨w.heap.size, i, none⟩ (.int .u64 (v : Nat))) tB lB (cur.set i v) :=
  ⟨(h.words.set i _).congr fun j _ => by
      unfold wordRow
      rw [gt_set _ _ _ _ (by omega)]
      split <;> rfl,
    h.res.setOther (by show w.heap.size + 1 ≠ w.heap.size; omega) _, h.turns.setOther (by have := h.t2; show tB ≠ w.heap.size; omega) _, h.consts.setOther (by have := h.l2; show lB ≠ w.heap.size; omega) _, h.below.setCell (Nat.le_refl _) _, h.t2, h.l2⟩
end

theorem rb_succ {W : World} {bB : Nat} {cur : List Nat} {x y : Nat} (hx : x < 5) (hy : y < 5) (hO : Ok cur) (h : W.rowIs bB 83 25 (wordRow (rbTo cur (5 * x + y)))) :
    (W.setCell ⟨bB, y * 5 + (2 * x + 3 * y) % 5, none⟩ (.int .u64 (rotl (mix (gt cur (x * 5 + y)) (rdcol cur x)) (gt rturns (x * 5 + y)) : Nat))).rowIs bB 83 25 (wordRow (rbTo cur (5 * x + (y + 1)))) := by
  refine (h.set _ _).congr fun j _ => ?_
  have e1 : rplace (5 * x + y) = y * 5 + (2 * x + 3 * y) % 5 := by unfold rplace; rw [show (5 * x + y) % 5 = y by omega, show (5 * x + y) / 5 = x by omega]
  have e2 : rbAt cur (5 * x + y) = rotl (mix (gt cur (x * 5 + y)) (rdcol cur x)) (gt rturns (x * 5 + y)) := by
    unfold rbAt mix; rw [show (5 * x + y) / 5 = x by omega, show 5 * x + y = x * 5 + y by omega]
  unfold wordRow
  rw [show rbTo cur (5 * x + (y + 1)) = (rbTo cur (5 * x + y)).set (rplace (5 * x + y)) (rbAt cur (5 * x + y)) from rfl, e1, e2, gt_set _ _ _ _ (by rw [(ok_rbTo hO _ (by omega)).1]; omega)]
  split <;> rfl
theorem RC.join {w W : World} {tB lB : Nat} {cur b : List Nat} {x y : Nat} (h : RC w W tB lB (rjoinTo cur b (5 * x + y))) (hx : x < 5) (hy : y < 5) :
    RC w (W.setCell ⟨w.heap.size, x * 5 + y, none⟩ (.int .u64 (rjw b (x * 5 + y) : Nat))) tB lB (rjoinTo cur b (5 * x + (y + 1))) := by
  have := h.word (tab_len _) (x * 5 + y) (rjw b (x * 5 + y)) (by omega)
  rw [show 5 * x + y = x * 5 + y by omega, rjoinTo_succ _ _ _ (by omega)] at this
  rw [show 5 * x + (y + 1) = x * 5 + y + 1 by omega]
  exact this
def words0 (n : Nat) : Array Value := (List.replicate n (Value.int .u64 0)).toArray
theorem zrow5 (cur : List Nat) (i : Nat) (hi : i < 5) : (words0 5)[i]? = some (rcolRow cur 0 i) := by
  unfold rcolRow
  rw [if_neg (by omega)]
  match i, hi with
  | 0, _ | 1, _ | 2, _ | 3, _ | 4, _ => rfl

set_option maxHeartbeats 8000000 in
set_option maxRecDepth 100000 in
theorem rchange_any (us : List Nat) (w : World) (hO : Ok us) :
    Calls Tryd.prog 64 #[.agg (words us)] w fun e w' => e = .returned (.agg (words (rchangeTo us 24))) ∧ Below w.heap.size w w' := by
  have HO := Lib.hid hO; clear hO
  have HWU := Lib.hid (show (words us).size = 25 by rw [words_size]; exact HO.out.1)
  go_enter Tryd.func64, Tryd.ntmps64
  go_wp2_with fail
  refine (rturns_any _).mono ?_
  rintro e' w1 ⟨rfl, hB1⟩
  have HR0 := Lib.hid (rowIs_words (heap_alloc_last w (.cells (words us) 83)) HO.out.1)
  have HZ0 := Lib.hid (rowIs_words (heap_alloc_last (w.alloc (.cells (words us) 83)) (.cells (words zeros) 83)) ok_zeros.1)
  have e1 : (w.alloc (.cells (words us) 83)).heap.size = w.heap.size + 1 := by simp
  have e2 : ((w.alloc (.cells (words us) 83)).alloc (.cells (words zeros) 83)).heap.size = w.heap.size + 2 := by simp
  rw [e1] at HZ0
  have hB1' : Below (w.heap.size + 2) ((w.alloc (.cells (words us) 83)).alloc (.cells (words zeros) 83)) w1 := e2 ▸ hB1
  have HW1 : Hid (w1.rowIs w.heap.size 83 25 (wordRow us)) := Lib.hid ((HR0.out.alloc (.cells (words zeros) 83)).of_block (hB1'.block _ (by omega)))
  have HZ1 : Hid (w1.rowIs (w.heap.size + 1) 83 25 (wordRow zeros)) := Lib.hid (HZ0.out.of_block (hB1'.block _ (by omega)))
  have HB1 : Hid (Below w.heap.size w w1) := Lib.hid ((((Below.refl _ _).alloc (Nat.le_refl _) _).alloc (by simp) _).trans (hB1'.mono (by omega)))
  have hs1 : w.heap.size + 2 ≤ w1.heap.size := by have := hB1'.size; omega
  clear hB1 hB1' e1 e2
  generalize hm : rturns = m at *
  have hl : m.length = 25 := by rw [← hm]; exact rturns_len
  have hi : (Tryd.prog.info? 95).map (·.size) = some (numsOf .i64 m).size := by rw [numsOf_size, hl]; kernel_rfl
  have hzm : (numsOf .i64 zeros).size = (numsOf .i64 m).size := by rw [numsOf_size, numsOf_size, ok_zeros.1, hl]
  have HZM := Lib.hid hzm; have HI := Lib.hid hi; have HM := Lib.hid hm; have HLM := Lib.hid hl; clear hl hi hzm hm
  go_wp2_with (refine wpList_store_row rfl 95 (.tmp 3) (.tmp 14) rfl w1.heap.size (numsOf .i64 m) rfl rfl 95 (numsOf .i64 zeros) (heap_alloc_last w1 _) HI.out HZM.out (numsOf_one _ _) ?_)
  rw [World.setRow_alloc_new]
  have HT1 : Hid ((w1.alloc (.cells (numsOf .i64 m) 95)).rowIs w1.heap.size 95 25 (nums .i64 rturns)) := Lib.hid (by rw [HM.out]; exact rowIs_nums (heap_alloc_last w1 _) HLM.out)
  refine (rconsts_any _).mono ?_
  rintro e' w2 ⟨rfl, hB2⟩
  have hs2 : w1.heap.size + 1 ≤ w2.heap.size := by have := hB2.size; simpa using this
  have HW2 := Lib.hid ((HW1.out.alloc (.cells (numsOf .i64 m) 95)).of_block (hB2.block _ (by simp; omega)))
  have HZ2 := Lib.hid ((HZ1.out.alloc (.cells (numsOf .i64 m) 95)).of_block (hB2.block _ (by simp; omega)))
  have HT2 := Lib.hid (HT1.out.of_block (hB2.block _ (by simp)))
  have HB2 : Hid (Below w.heap.size w w2) := Lib.hid ((HB1.out.alloc (by omega) _).trans (hB2.mono (by simp; omega)))
  clear hB2
  generalize hq : roundsT = q at *
  have hlq : q.length = 24 := by rw [← hq]; decide
  have hi2 : (Tryd.prog.info? 97).map (·.size) = some (numsOf .u64 q).size := by rw [numsOf_size, hlq]; kernel_rfl
  have hzm2 : (numsOf .u64 zeros24).size = (numsOf .u64 q).size := by rw [numsOf_size, numsOf_size, hlq]; decide
  have HZM2 := Lib.hid hzm2; have HI2 := Lib.hid hi2; have HQ := Lib.hid hq; have HLQ := Lib.hid hlq; clear hlq hi2 hzm2 hq
  go_wp2_with (refine wpList_store_row rfl 97 (.tmp 4) (.tmp 15) rfl w2.heap.size (numsOf .u64 q) rfl rfl 97 (numsOf .u64 zeros24) (heap_alloc_last w2 _) HI2.out HZM2.out (numsOf_one _ _) ?_)
  rw [World.setRow_alloc_new]
  have HC2 : Hid ((w2.alloc (.cells (numsOf .u64 q) 97)).rowIs w2.heap.size 97 24 (nums .u64 roundsT)) := Lib.hid (by rw [HQ.out]; exact rowIs_nums (heap_alloc_last w2 _) HLQ.out)
  have HRC : Hid (RC w (w2.alloc (.cells (numsOf .u64 q) 97)) w1.heap.size w2.heap.size us) := Lib.hid ⟨HW2.out.alloc _, HZ2.out.alloc _, HT2.out.alloc _, HC2.out, HB2.out.alloc (by omega) _, hs1, by omega⟩
  generalize w1.heap.size = tB at *
  have hs2' : tB < w2.heap.size := by omega
  clear hs2 HT1 HT2 HC2 HW1 HZ1 HW2 HZ2 HB1 HB2 HR0 HZ0
  generalize w2.heap.size = lB at *
  go_loopw [5] (fun i W => ∃ k : Nat, k ≤ 24 ∧ i = .int .i64 k ∧ Hid (RC w W tB lB (rchangeTo us k))) (fun i _ => 24 - (intOf i).toNat)
  case atStart => exact ⟨0, by omega, rfl, HRC⟩
  case round =>
    obtain ⟨k, hk, rfl, HRC1⟩ := hrel
    by_cases hlt : k < 24
    · have hoc := ok_rchangeTo HO.out k hk
      have hnx : rchangeTo us (k + 1) = rround (rchangeTo us k) (gt roundsT k) := rfl
      generalize rchangeTo us k = cur at *
      have HOC := Lib.hid hoc; have HNX := Lib.hid hnx; clear hoc hnx
      have ht1 : tB < wr.heap.size := HRC1.out.turns.lt
      have hl1 : lB < wr.heap.size := HRC1.out.consts.lt
      have hN1 : w.heap.size + 2 ≤ wr.heap.size := by have := HRC1.out.t2; omega
      have hdk : decide ((k : Int) < 24) = true := decide_eq_true (by omega)
      go_wp2
      have HCRow : Hid ((wr.alloc (.cells (words0 5) 82)).rowIs wr.heap.size 82 5 (rcolRow cur 0)) := Lib.hid (World.rowIs_alloc wr _ 82 (rcolRow cur 0) (fun i hi => zrow5 cur i hi))
      have HRC1' : Hid (RC w (wr.alloc (.cells (words0 5) 82)) tB lB cur) := Lib.hid (HRC1.out.alloc _)
      change Code.wp _ _ _ _ (wr.alloc (.cells (words0 5) 82))
      generalize wr.alloc (.cells (words0 5) 82) = wA at *
      generalize wr.heap.size = cB at *
      clear HRC1
      go_loopw [7] (fun i W => ∃ x : Nat, x ≤ 5 ∧ i = .int .i64 x ∧ Hid (RC w W tB lB cur) ∧ Hid (W.rowIs cB 82 5 (rcolRow cur x))) (fun i _ => 5 - (intOf i).toNat)
      case atStart => exact ⟨0, by omega, rfl, HRC1', HCRow⟩
      case round =>
        obtain ⟨x, hx, rfl, HRC2, HR2⟩ := hrel
        by_cases hx5 : x < 5
        · have c0 := HRC2.out.words.cell (i := x * 5) (by omega)
          have c1 := HRC2.out.words.cell (i := x * 5 + 1) (by omega)
          have c2 := HRC2.out.words.cell (i := x * 5 + 2) (by omega)
          have c3 := HRC2.out.words.cell (i := x * 5 + 3) (by omega)
          have c4 := HRC2.out.words.cell (i := x * 5 + 4) (by omega)
          unfold wordRow at c0 c1 c2 c3 c4
          have d0 := HR2.out.cell (i := x) hx5
          have d1 := HR2.out.frozen x
          have hb := rcol_bits HOC.out x
          go_wp2
          go_region
          go_wp2
          go_roundw
          case rel => exact ⟨x + 1, by omega, by go_num, Lib.hid (HRC2.out.set hN1 (by omega) (by omega) _).drew, Lib.hid (rcolRow_succ HR2.out).drew⟩
          case measure => simp [intOf]; omega
        · obtain rfl : x = 5 := by omega
          have hcB : cB < wr.heap.size := HR2.out.lt
          go_wp2
          have HBRow : Hid ((wr.alloc (.cells (words zeros) 83)).rowIs wr.heap.size 83 25 (wordRow (rbTo cur (5 * 0)))) := Lib.hid (rowIs_words (heap_alloc_last wr _) ok_zeros.1)
          have HRC3' : Hid (RC w (wr.alloc (.cells (words zeros) 83)) tB lB cur) := Lib.hid (HRC2.out.alloc _)
          have HR3' : Hid ((wr.alloc (.cells (words zeros) 83)).rowIs cB 82 5 (rcolRow cur 5)) := Lib.hid (HR2.out.alloc _)
          change Code.wp _ _ _ _ (wr.alloc (.cells (words zeros) 83))
          generalize wr.alloc (.cells (words zeros) 83) = wB at *
          generalize wr.heap.size = bB at *
          clear HRC2 HR2
          go_loopw [9] (fun i W => ∃ x : Nat, x ≤ 5 ∧ i = .int .i64 x ∧ Hid (RC w W tB lB cur) ∧ Hid (W.rowIs cB 82 5 (rcolRow cur 5)) ∧ Hid (W.rowIs bB 83 25 (wordRow (rbTo cur (5 * x))))) (fun i _ => 5 - (intOf i).toNat)
          case atStart => exact ⟨0, by omega, rfl, HRC3', HR3', HBRow⟩
          case round =>
            obtain ⟨x, hx, rfl, HRC3, HR3, HB3⟩ := hrel
            by_cases hx5 : x < 5
            · have d0 := HR3.out.cell (i := (x + 4) % 5) (by omega)
              have d1 := HR3.out.cell (i := (x + 1) % 5) (by omega)
              rw [rcolRow, if_pos (by omega)] at d0 d1
              have hb := rdcol_bits HOC.out x
              have hdx : decide ((x : Int) < 5) = true := decide_eq_true (by omega)
              go_wp2
              go_quiet ((go_at_call 73; exact Calls.quiet_of (rturned_one _ _ (rcol_lt HOC.out _))))
              go_wp2
              have HRC4' := Lib.hid (HRC3.out.drewN nq)
              have HR4' := Lib.hid (rowIs_drewN HR3.out nq)
              have HB4' := Lib.hid (rowIs_drewN HB3.out nq)
              clear d0 d1 hb HRC3 HR3 HB3
              generalize wr.drewN nq = wD at *
              go_loopw [11] (fun i W => ∃ y : Nat, y ≤ 5 ∧ i = .int .i64 y ∧ Hid (RC w W tB lB cur) ∧ Hid (W.rowIs cB 82 5 (rcolRow cur 5)) ∧ Hid (W.rowIs bB 83 25 (wordRow (rbTo cur (5 * x + y))))) (fun i _ => 5 - (intOf i).toNat)
              case atStart => exact ⟨0, by omega, rfl, HRC4', HR4', HB4'⟩
              case round =>
                obtain ⟨y, hy, rfl, HRC5, HR5, HB5⟩ := hrel
                by_cases hy5 : y < 5
                · have c0 := HRC5.out.words.cell (i := x * 5 + y) (by omega)
                  have c1 := HRC5.out.turns.cell (i := x * 5 + y) (by omega)
                  unfold wordRow at c0
                  unfold nums at c1
                  have d0 := HB5.out.cell (i := y * 5 + (2 * x + 3 * y) % 5) (by omega)
                  have d1 := HB5.out.frozen (y * 5 + (2 * x + 3 * y) % 5)
                  have hmx := mix_bits (HOC.out.2 (x * 5 + y)) (rdcol_lt HOC.out x)
                  have hlm : mix (gt cur (x * 5 + y)) (rdcol cur x) < 18446744073709551616 := xor_lt (HOC.out.2 _) (rdcol_lt HOC.out x)
                  have htl := rturns_lt (x * 5 + y) (by omega)
                  have hx0 : (0 : Int) ≤ (x : Int) := by omega
                  have hx1 : (x : Int) < 5 := by omega
                  have hy0 : (0 : Int) ≤ (y : Int) := by omega
                  have hy1 : (y : Int) < 5 := by omega
                  have hdy : decide ((y : Int) < 5) = true := decide_eq_true (by omega)
                  have n1 : bB ≠ w.heap.size := by omega
                  have n1' : w.heap.size ≠ bB := by omega
                  have n2 : bB ≠ tB := by omega
                  have n2' : tB ≠ bB := by omega
                  go_wp2
                  have q1 : IntKind.i64.wrap (2 * (x : Int)) = 2 * (x : Int) := IntWalk.i64_in _ (by omega)
                  have q2 : IntKind.i64.wrap (3 * (y : Int)) = 3 * (y : Int) := IntWalk.i64_in _ (by omega)
                  have q3 : IntKind.i64.wrap (2 * (x : Int) + 3 * (y : Int)) = 2 * (x : Int) + 3 * (y : Int) := IntWalk.i64_in _ (by omega)
                  have q4 : (2 * (x : Int) + 3 * (y : Int)).tmod 5 = (2 * (x : Int) + 3 * (y : Int)) % 5 := Int.tmod_eq_emod_of_nonneg (by omega)
                  have q5 : 0 ≤ (2 * (x : Int) + 3 * (y : Int)) % 5 := by omega
                  have q6 : (2 * (x : Int) + 3 * (y : Int)) % 5 < 5 := by omega
                  have q7 : ((2 * (x : Int) + 3 * (y : Int)) % 5).toNat = (2 * x + 3 * y) % 5 := by omega
                  go_region_held3 (fun w' => w'.cell? ⟨w.heap.size, x * 5 + y, none⟩ = some (.int .u64 (gt cur (x * 5 + y) : Nat)) ∧ w'.cell? ⟨tB, x * 5 + y, none⟩ = some (.int .i64 (gt rturns (x * 5 + y) : Nat)) ∧ w'.frozen? ⟨bB, y * 5 + (2 * x + 3 * y) % 5, none⟩ = false) (go_keep) (first | (go_at_call 73; refine (rturned_any _ _ _ hlm htl).mono ?_; rintro e' w' ⟨rfl, nq, rfl⟩))
                  clear q1 q2 q3 q4 q7
                  go_wp2
                  go_roundw
                  case rel =>
                    have r1 := (HRC5.out.drewN (1 + nq)).set (g := bB) (i := y * 5 + (2 * x + 3 * y) % 5) (by omega) n2 (by omega) (.int .u64 (rotl (mix (gt cur (x * 5 + y)) (rdcol cur x)) (gt rturns (x * 5 + y)) : Nat))
                    have r2 := (rowIs_drewN HR5.out (1 + nq)).setOther (a := ⟨bB, y * 5 + (2 * x + 3 * y) % 5, none⟩) (by show cB ≠ bB; omega) (.int .u64 (rotl (mix (gt cur (x * 5 + y)) (rdcol cur x)) (gt rturns (x * 5 + y)) : Nat))
                    have r3 := rb_succ hx5 hy5 HOC.out (rowIs_drewN HB5.out (1 + nq))
                    first
                      | exact ⟨y + 1, by omega, by go_num, Lib.hid r1, Lib.hid r2, Lib.hid r3⟩
                      | ((repeat apply Exists.intro); exact ⟨⟨y + 1, by omega, by go_num, Lib.hid r1, Lib.hid r2, Lib.hid r3⟩, rfl⟩)
                  case measure => simp [intOf]; omega
                · obtain rfl : y = 5 := by omega
                  go_wp2
                  go_roundw
                  case rel => exact ⟨x + 1, by omega, by go_num, HRC5, HR5, HB5⟩
                  case measure => simp [intOf]; omega
            · obtain rfl : x = 5 := by omega
              have hob : Ok (rbTo cur (5 * 5)) := ok_rbTo HOC.out 25 (Nat.le_refl _)
              have HNX2 : Hid (rchangeTo us (k + 1) = (rjoinTo cur (rbTo cur (5 * 5)) 25).set 0 (gt (rjoinTo cur (rbTo cur (5 * 5)) 25) 0 ^^^ gt roundsT k)) := Lib.hid HNX.out
              generalize rbTo cur (5 * 5) = bb at *
              have HOB := Lib.hid hob; clear hob
              clear HRC3' HR3' HBRow
              go_wp2
              go_loopw [12] (fun i W => ∃ x : Nat, x ≤ 5 ∧ i = .int .i64 x ∧ Hid (RC w W tB lB (rjoinTo cur bb (5 * x))) ∧ Hid (W.rowIs bB 83 25 (wordRow bb))) (fun i _ => 5 - (intOf i).toNat)
              case atStart => exact ⟨0, by omega, rfl, Lib.hid (by rw [Nat.mul_zero, rjoinTo_zero HOC.out]; exact HRC3.out), HB3⟩
              case round =>
                obtain ⟨x, hx, rfl, HRC6, HB6⟩ := hrel
                by_cases hx5 : x < 5
                · go_wp2
                  go_loopw [13] (fun i W => ∃ y : Nat, y ≤ 5 ∧ i = .int .i64 y ∧ Hid (RC w W tB lB (rjoinTo cur bb (5 * x + y))) ∧ Hid (W.rowIs bB 83 25 (wordRow bb))) (fun i _ => 5 - (intOf i).toNat)
                  case atStart => exact ⟨0, by omega, rfl, HRC6, HB6⟩
                  case round =>
                    obtain ⟨y, hy, rfl, HRC7, HB7⟩ := hrel
                    by_cases hy5 : y < 5
                    · have c0 := HB7.out.cell (i := x * 5 + y) (by omega)
                      have c1 := HB7.out.cell (i := (x + 1) % 5 * 5 + y) (by omega)
                      have c2 := HB7.out.cell (i := (x + 2) % 5 * 5 + y) (by omega)
                      unfold wordRow at c0 c1 c2
                      have d0 := HRC7.out.words.cell (i := x * 5 + y) (by omega)
                      have d1 := HRC7.out.words.frozen (x * 5 + y)
                      have hj := rjw_bits HOB.out (x * 5 + y) (x * 5 + y) ((x + 1) % 5 * 5 + y) ((x + 2) % 5 * 5 + y) rfl (by omega) (by omega)
                      go_wp2
                      go_region
                      go_wp2
                      go_roundw
                      case rel => exact ⟨y + 1, by omega, by go_num, Lib.hid (HRC7.out.join hx5 hy5).drew, Lib.hid (HB7.out.setOther (by show bB ≠ w.heap.size; omega) _).drew⟩
                      case measure => simp [intOf]; omega
                    · obtain rfl : y = 5 := by omega
                      go_wp2
                      go_roundw
                      case rel => exact ⟨x + 1, by omega, by go_num, HRC7, HB7⟩
                      case measure => simp [intOf]; omega
                · obtain rfl : x = 5 := by omega
                  have hoj : Ok (rjoinTo cur bb (5 * 5)) := ok_rjoinTo HOC.out HOB.out _
                  have HRC8 : Hid (RC w wr tB lB (rjoinTo cur bb (5 * 5))) := HRC6
                  have HNX3 : Hid (rchangeTo us (k + 1) = (rjoinTo cur bb (5 * 5)).set 0 (mix (gt (rjoinTo cur bb (5 * 5)) 0) (gt roundsT k))) := HNX2
                  clear HRC6 HNX2
                  generalize rjoinTo cur bb (5 * 5) = jj at *
                  have HOJ := Lib.hid hoj; clear hoj
                  have c0 := HRC8.out.words.cell (i := 0) (by omega)
                  unfold wordRow at c0
                  have f0 := HRC8.out.words.frozen 0
                  have c1 := HRC8.out.consts.cell (i := k) hlt
                  unfold nums at c1
                  have hio := mix_bits (HOJ.out.2 0) (rounds_lt k hlt)
                  go_wp2
                  go_region
                  go_wp2
                  go_roundw
                  case rel => exact ⟨k + 1, by omega, by go_num, Lib.hid (by rw [HNX3.out]; exact (HRC8.out.word HOJ.out.1 0 _ (by omega)).drew)⟩
                  case measure => simp [intOf]; omega
    · obtain rfl : k = 24 := by omega
      have hoc := ok_rchangeTo HO.out 24 (Nat.le_refl _)
      generalize hmm : rchangeTo us 24 = mm at *
      have hl : mm.length = 25 := hoc.1
      have hc := heap_words HRC1.out.words hl
      have hz := heap_words HRC1.out.res ok_zeros.1
      have hi : (Tryd.prog.info? 83).map (·.size) = some (words mm).size := by rw [words_size, hl]; kernel_rfl
      have hzm : (words zeros).size = (words mm).size := by rw [words_size, words_size, ok_zeros.1, hl]
      have HC := Lib.hid hc; have HZ := Lib.hid hz; have HZM' := Lib.hid hzm; have HI' := Lib.hid hi; have HMM := Lib.hid hmm; clear hc hz hl hi hzm hmm hoc
      go_wp2_with (first | (refine wpList_load_row rfl 83 (.tmp 1) rfl w.heap.size rfl 83 (words mm) (0, 0) _ HC.out Tryd.underlying83 rfl HI'.out ?_) | (refine wpList_store_row rfl 83 (.tmp 2) (.tmp 135) rfl (w.heap.size + 1) (words mm) rfl rfl 83 (words zeros) HZ.out HI'.out HZM'.out (words_one _) ?_))
      refine bodyPost_ret (v := .agg (words mm)) (results_cell_row (p := 2) (ty := 83) (by kernel_rfl) _ _ (w.heap.size + 1) 83 (words mm) (0, 0) _ rfl (setRow_heap _ _ _ _ _ _ HZ.out) Tryd.underlying83 rfl HI'.out) rfl ⟨by rw [HMM.out], below_setRow HRC1.out.below (by omega) _⟩

end Go.Proofs.YtfhibjpkbbbfpaaDoor.Kec
