/- Plain mathematics of the document's own sponge: its words lie the other way about. -/
import Derived.Test.YtdkhiooiakdecaaDoorRKecSponge
import Derived.KernelRfl
namespace Go.Proofs.YtdkhiooiakdecaaDoorR.Kec
set_option linter.all false

/-- word x, y at 5 x + y, where the program has it at x + 5 y -/
def tp (ws : List Nat) : List Nat := tab fun p => gt ws (p / 5 + 5 * (p % 5))
theorem ok_tp {ws : List Nat} (h : Ok ws) : Ok (tp ws) := ok_tab _ fun _ _ => h.2 _
theorem gt_tp (ws : List Nat) (i : Nat) (h : i < 25) : gt (tp ws) (5 * (i % 5) + i / 5) = gt ws i := by
  unfold tp
  rw [gt_tab _ _ (by omega)]
  congr 1
  omega
theorem tp_set {ws : List Nat} (hl : ws.length = 25) (i v : Nat) (h : i < 25) : (tp ws).set (5 * (i % 5) + i / 5) v = tp (ws.set i v) := by
  refine ext25 (by simp [tp, tab]) (tab_len _) fun p hp => ?_
  rw [gt_set _ _ _ _ (by rw [tp, tab_len]; omega)]
  unfold tp
  rw [gt_tab _ _ hp, gt_tab _ _ hp, gt_set _ _ _ _ (by omega)]
  by_cases e : p = 5 * (i % 5) + i / 5
  · rw [if_pos e, if_pos (by omega)]
  · rw [if_neg e, if_neg (by omega)]

def rcol (us : List Nat) (x : Nat) : Nat := (((gt us (x * 5) ^^^ gt us (x * 5 + 1)) ^^^ gt us (x * 5 + 2)) ^^^ gt us (x * 5 + 3)) ^^^ gt us (x * 5 + 4)
theorem rcol_lt {us : List Nat} (h : Ok us) (x : Nat) : rcol us x < 18446744073709551616 :=
  xor_lt (xor_lt (xor_lt (xor_lt (h.2 _) (h.2 _)) (h.2 _)) (h.2 _)) (h.2 _)
def rdcol (us : List Nat) (x : Nat) : Nat := rcol us ((x + 4) % 5) ^^^ rotl (rcol us ((x + 1) % 5)) 1
theorem rdcol_lt {us : List Nat} (h : Ok us) (x : Nat) : rdcol us x < 18446744073709551616 := xor_lt (rcol_lt h _) (rotl_lt _ _ (rcol_lt h _))

/-- where its turns walk, and what they lay -/
def xyTo : Nat → Nat × Nat
  | 0 => (1, 0)
  | n + 1 => ((xyTo n).2, (2 * (xyTo n).1 + 3 * (xyTo n).2) % 5)
theorem xy_lt : ∀ n, (xyTo n).1 < 5 ∧ (xyTo n).2 < 5
  | 0 => ⟨by decide, by decide⟩
  | n + 1 => ⟨(xy_lt n).2, Nat.mod_lt _ (by omega)⟩
def trTo : Nat → List Nat
  | 0 => zeros
  | n + 1 => (trTo n).set ((xyTo n).1 * 5 + (xyTo n).2) ((n + 1) * (n + 2) / 2 % 64)
theorem trTo_len : ∀ n, (trTo n).length = 25
  | 0 => tab_len _
  | n + 1 => by simp [trTo, trTo_len n]
def rturns : List Nat := tp turnsT
theorem trTo_all : trTo 24 = rturns := by decide +kernel
theorem rturns_lt (i : Nat) (h : i < 25) : gt rturns i < 64 := (by decide +kernel : ∀ i : Fin 25, gt rturns i.1 < 64) ⟨i, h⟩
theorem rturns_len : rturns.length = 25 := tab_len _

/-- its constants: what is shifted, and what is laid, behind n steps -/
def rcShift (r : Nat) : Nat := if 256 ≤ r * 2 then (r * 2) ^^^ 369 else r * 2
def rcTo : Nat → Nat
  | 0 => 1
  | n + 1 => rcShift (rcTo n)
theorem rc_lt : ∀ n, rcTo n < 256
  | 0 => by decide
  | n + 1 => by
    have h := rc_lt n
    show rcShift (rcTo n) < 256
    have all : ∀ r : Fin 256, rcShift r.1 < 256 := by decide +kernel
    exact all ⟨_, h⟩
def rlStep (l : List Nat) (n : Nat) : List Nat := if rcTo n % 2 = 1 then l.set (n / 7) (gt l (n / 7) ||| 2 ^ (2 ^ (n % 7) - 1)) else l
def zeros24 : List Nat := (List.range 24).map fun _ => 0
def rlTo : Nat → List Nat
  | 0 => zeros24
  | n + 1 => rlStep (rlTo n) n
theorem rlTo_len : ∀ n, (rlTo n).length = 24
  | 0 => by simp [rlTo, zeros24]
  | n + 1 => by
    show (rlStep (rlTo n) n).length = 24
    unfold rlStep
    split
    · simp [rlTo_len n]
    · exact rlTo_len n
theorem rlTo_all : rlTo 168 = roundsT := by decide +kernel

/-- what its second loop lays -/
def rbAt (us : List Nat) (n : Nat) : Nat := rotl (gt us n ^^^ rdcol us (n / 5)) (gt rturns n)
def rplace (n : Nat) : Nat := n % 5 * 5 + (2 * (n / 5) + 3 * (n % 5)) % 5
def rbTo (us : List Nat) : Nat → List Nat
  | 0 => zeros
  | n + 1 => (rbTo us n).set (rplace n) (rbAt us n)
theorem rplace_lt (n : Nat) (h : n < 25) : rplace n < 25 := by unfold rplace; omega
theorem rbAt_lt {us : List Nat} (h : Ok us) (n : Nat) : rbAt us n < 18446744073709551616 := rotl_lt _ _ (xor_lt (h.2 _) (rdcol_lt h _))
theorem ok_rbTo {us : List Nat} (h : Ok us) : ∀ n, n ≤ 25 → Ok (rbTo us n)
  | 0, _ => ok_zeros
  | n + 1, hn => ok_set (ok_rbTo h n (by omega)) _ _ (rplace_lt n (by omega)) (rbAt_lt h n)
def rjw (b : List Nat) (p : Nat) : Nat := gt b p ^^^ (notw (gt b ((p / 5 + 1) % 5 * 5 + p % 5)) &&& gt b ((p / 5 + 2) % 5 * 5 + p % 5))
theorem rjw_lt {b : List Nat} (h : Ok b) (i : Nat) : rjw b i < 18446744073709551616 := xor_lt (h.2 _) (and_lt (h.2 _))
def rjoinTo (us b : List Nat) (k : Nat) : List Nat := tab fun i => if i < k then rjw b i else gt us i
theorem ok_rjoinTo {us b : List Nat} (h : Ok us) (hb : Ok b) (k : Nat) : Ok (rjoinTo us b k) := by
  refine ok_tab _ fun i _ => ?_
  split
  · exact rjw_lt hb _
  · exact h.2 _
theorem rjoinTo_zero {us b : List Nat} (h : Ok us) : rjoinTo us b 0 = us := by
  refine ext25 (tab_len _) h.1 fun i hi => ?_
  unfold rjoinTo; rw [gt_tab _ _ hi, if_neg (by omega)]
theorem rjoinTo_succ (us b : List Nat) (k : Nat) (hk : k < 25) : (rjoinTo us b k).set k (rjw b k) = rjoinTo us b (k + 1) := by
  refine ext25 (by simp [rjoinTo, tab]) (tab_len _) fun i hi => ?_
  rw [gt_set _ _ _ _ (by rw [rjoinTo, tab_len]; exact hk)]
  unfold rjoinTo
  rw [gt_tab _ _ hi, gt_tab _ _ hi]
  by_cases e : i = k
  · subst e; simp
  · rw [if_neg e]
    by_cases h : i < k
    · rw [if_pos h, if_pos (by omega)]
    · rw [if_neg h, if_neg (by omega)]
def rround (us : List Nat) (c : Nat) : List Nat := (rjoinTo us (rbTo us 25) 25).set 0 (gt (rjoinTo us (rbTo us 25) 25) 0 ^^^ c)
def rchangeTo (us : List Nat) : Nat → List Nat
  | 0 => us
  | n + 1 => rround (rchangeTo us n) (gt roundsT n)
theorem ok_rround {us : List Nat} (h : Ok us) (c : Nat) (hc : c < 18446744073709551616) : Ok (rround us c) :=
  ok_set (ok_rjoinTo h (ok_rbTo h 25 (Nat.le_refl _)) _) _ _ (by omega) (xor_lt ((ok_rjoinTo h (ok_rbTo h 25 (Nat.le_refl _)) _).2 _) hc)
theorem ok_rchangeTo {us : List Nat} (h : Ok us) : ∀ n, n ≤ 24 → Ok (rchangeTo us n)
  | 0, _ => h
  | n + 1, hn => ok_rround (ok_rchangeTo h n (by omega)) _ (rounds_lt n (by omega))

theorem gt_tp' (ws : List Nat) (p : Nat) (h : p < 25) : gt (tp ws) p = gt ws (p / 5 + 5 * (p % 5)) := by unfold tp; rw [gt_tab _ _ h]
theorem rcol_tp (ws : List Nat) (x : Nat) (h : x < 5) : rcol (tp ws) x = col ws x := by
  unfold rcol col
  rw [gt_tp' _ _ (by omega), gt_tp' _ _ (by omega), gt_tp' _ _ (by omega), gt_tp' _ _ (by omega), gt_tp' _ _ (by omega)]
  rw [show x * 5 / 5 + 5 * (x * 5 % 5) = x by omega, show (x * 5 + 1) / 5 + 5 * ((x * 5 + 1) % 5) = x + 5 by omega, show (x * 5 + 2) / 5 + 5 * ((x * 5 + 2) % 5) = x + 10 by omega,
    show (x * 5 + 3) / 5 + 5 * ((x * 5 + 3) % 5) = x + 15 by omega, show (x * 5 + 4) / 5 + 5 * ((x * 5 + 4) % 5) = x + 20 by omega]
theorem rdcol_tp (ws : List Nat) (x : Nat) : rdcol (tp ws) x = dcol ws x := by
  unfold rdcol dcol
  rw [rcol_tp _ _ (Nat.mod_lt _ (by omega)), rcol_tp _ _ (Nat.mod_lt _ (by omega))]
/-- who comes to a place -/
def rfrom (q : Nat) : Nat := ((List.range 25).find? fun n => rplace n == q).getD 0
def pfrom (q : Nat) : Nat := ((List.range 25).find? fun n => gt placesT n == q).getD 0
theorem rfrom_iff (n q : Nat) (hn : n < 25) (hq : q < 25) : (q = rplace n) = (n = rfrom q) :=
  (by decide +kernel : ∀ (n q : Fin 25), (q.1 = rplace n.1) = (n.1 = rfrom q.1)) ⟨n, hn⟩ ⟨q, hq⟩
theorem pfrom_iff (n q : Nat) (hn : n < 25) (hq : q < 25) : (q = gt placesT n) = (n = pfrom q) :=
  (by decide +kernel : ∀ (n q : Fin 25), (q.1 = gt placesT n.1) = (n.1 = pfrom q.1)) ⟨n, hn⟩ ⟨q, hq⟩
theorem from_meet (p : Nat) (h : p < 25) : rfrom p < 25 ∧ pfrom (p / 5 + 5 * (p % 5)) < 25 ∧ rfrom p / 5 + 5 * (rfrom p % 5) = pfrom (p / 5 + 5 * (p % 5)) ∧ gt rturns (rfrom p) = gt turnsT (pfrom (p / 5 + 5 * (p % 5))) ∧ rfrom p / 5 = pfrom (p / 5 + 5 * (p % 5)) % 5 :=
  (by decide +kernel : ∀ p : Fin 25, rfrom p.1 < 25 ∧ pfrom (p.1 / 5 + 5 * (p.1 % 5)) < 25 ∧ rfrom p.1 / 5 + 5 * (rfrom p.1 % 5) = pfrom (p.1 / 5 + 5 * (p.1 % 5)) ∧ gt rturns (rfrom p.1) = gt turnsT (pfrom (p.1 / 5 + 5 * (p.1 % 5))) ∧ rfrom p.1 / 5 = pfrom (p.1 / 5 + 5 * (p.1 % 5)) % 5) ⟨p, h⟩
theorem gt_rbTo {us : List Nat} (h : Ok us) (q : Nat) (hq : q < 25) : ∀ n, n ≤ 25 → gt (rbTo us n) q = if rfrom q < n then rbAt us (rfrom q) else 0
  | 0, _ => by
    show gt zeros q = _
    rw [if_neg (by omega), zeros, gt_tab _ _ hq]
  | n + 1, hn => by
    show gt ((rbTo us n).set (rplace n) (rbAt us n)) q = _
    rw [gt_set _ _ _ _ (by rw [(ok_rbTo h n (by omega)).1]; exact rplace_lt n (by omega)), gt_rbTo h q hq n (by omega)]
    have e := rfrom_iff n q (by omega) hq
    by_cases hn' : n = rfrom q
    · rw [if_pos (e.symm ▸ hn'), if_pos (by omega), hn']
    · rw [if_neg (fun hh => hn' (e ▸ hh))]
      by_cases hlt : rfrom q < n
      · rw [if_pos hlt, if_pos (by omega)]
      · rw [if_neg hlt, if_neg (by omega)]
theorem gt_movedTo {ws : List Nat} (h : Ok ws) (q : Nat) (hq : q < 25) : ∀ n, n ≤ 25 → gt (movedTo ws n) q = if pfrom q < n then rotl (gt ws (pfrom q)) (gt turnsT (pfrom q)) else 0
  | 0, _ => by
    show gt zeros q = _
    rw [if_neg (by omega), zeros, gt_tab _ _ hq]
  | n + 1, hn => by
    show gt ((movedTo ws n).set (gt placesT n) (rotl (gt ws n) (gt turnsT n))) q = _
    rw [gt_set _ _ _ _ (by rw [(ok_movedTo h n (by omega)).1]; exact places_lt n (by omega)), gt_movedTo h q hq n (by omega)]
    have e := pfrom_iff n q (by omega) hq
    by_cases hn' : n = pfrom q
    · rw [if_pos (e.symm ▸ hn'), if_pos (by omega), hn']
    · rw [if_neg (fun hh => hn' (e ▸ hh))]
      by_cases hlt : pfrom q < n
      · rw [if_pos hlt, if_pos (by omega)]
      · rw [if_neg hlt, if_neg (by omega)]
theorem rbTo_tp {ws : List Nat} (h : Ok ws) : rbTo (tp ws) 25 = tp (moved (spread ws)) := by
  refine ext25 (ok_rbTo (ok_tp h) 25 (Nat.le_refl _)).1 (tab_len _) fun p hp => ?_
  obtain ⟨h1, h2, h3, h4, h5⟩ := from_meet p hp
  rw [gt_rbTo (ok_tp h) p hp 25 (Nat.le_refl _), if_pos h1, gt_tp' _ _ hp, moved, gt_movedTo (ok_spread h) _ (by omega) 25 (Nat.le_refl _), if_pos h2]
  unfold rbAt
  rw [gt_tp' _ _ h1, rdcol_tp, h3, h4, h5]
  unfold spread
  rw [gt_tab _ _ h2]
theorem ix1 (p : Nat) (hp : p < 25) : ((p / 5 + 1) % 5 * 5 + p % 5) / 5 + 5 * (((p / 5 + 1) % 5 * 5 + p % 5) % 5) = (p / 5 + 5 * (p % 5)) / 5 * 5 + ((p / 5 + 5 * (p % 5)) % 5 + 1) % 5 :=
  (by decide +kernel : ∀ p : Fin 25, ((p.1 / 5 + 1) % 5 * 5 + p.1 % 5) / 5 + 5 * (((p.1 / 5 + 1) % 5 * 5 + p.1 % 5) % 5) = (p.1 / 5 + 5 * (p.1 % 5)) / 5 * 5 + ((p.1 / 5 + 5 * (p.1 % 5)) % 5 + 1) % 5) ⟨p, hp⟩
theorem ix2 (p : Nat) (hp : p < 25) : ((p / 5 + 2) % 5 * 5 + p % 5) / 5 + 5 * (((p / 5 + 2) % 5 * 5 + p % 5) % 5) = (p / 5 + 5 * (p % 5)) / 5 * 5 + ((p / 5 + 5 * (p % 5)) % 5 + 2) % 5 :=
  (by decide +kernel : ∀ p : Fin 25, ((p.1 / 5 + 2) % 5 * 5 + p.1 % 5) / 5 + 5 * (((p.1 / 5 + 2) % 5 * 5 + p.1 % 5) % 5) = (p.1 / 5 + 5 * (p.1 % 5)) / 5 * 5 + ((p.1 / 5 + 5 * (p.1 % 5)) % 5 + 2) % 5) ⟨p, hp⟩
theorem rjw_tp (m : List Nat) (p : Nat) (hp : p < 25) : rjw (tp m) p = joinw m (p / 5 + 5 * (p % 5)) := by
  unfold rjw joinw
  rw [gt_tp' _ _ hp, gt_tp' _ _ (by omega), gt_tp' _ _ (by omega)]
  rw [ix1 p hp,
    ix2 p hp]
theorem round_at (ws : List Nat) (h : Ok ws) (c : Nat) (p : Nat) (hp : p < 25) : gt (rround (tp ws) c) p = gt (tp (round ws c)) p := by
  have hj : ∀ q, q < 25 → gt (rjoinTo (tp ws) (rbTo (tp ws) 25) 25) q = gt (join (moved (spread ws))) (q / 5 + 5 * (q % 5)) := fun q hq => by
    unfold rjoinTo join
    rw [gt_tab _ _ hq, if_pos hq, gt_tab _ _ (by omega), rbTo_tp h, rjw_tp _ _ hq]
  unfold rround
  rw [gt_set _ _ _ _ (by rw [rjoinTo, tab_len]; omega), gt_tp' _ _ hp]
  unfold round
  rw [gt_set _ _ _ _ (by rw [join, tab_len]; omega), hj p hp, hj 0 (by omega)]
  by_cases e : p = 0
  · subst e; rfl
  · rw [if_neg e, if_neg (by omega)]
theorem round_tp {ws : List Nat} (h : Ok ws) (c : Nat) (hc : c < 18446744073709551616) : rround (tp ws) c = tp (round ws c) :=
  ext25 (ok_rround (ok_tp h) c hc).1 (tab_len _) fun p hp => round_at ws h c p hp
theorem change_tp {ws : List Nat} (h : Ok ws) : ∀ n, n ≤ 24 → rchangeTo (tp ws) n = tp (changeTo ws n)
  | 0, _ => rfl
  | n + 1, hn => by
    show rround (rchangeTo (tp ws) n) (gt roundsT n) = tp (round (changeTo ws n) (gt roundsT n))
    rw [change_tp h n (by omega), round_tp (ok_changeTo h n (by omega)) _ (rounds_lt n (by omega))]

end Go.Proofs.YtdkhiooiakdecaaDoorR.Kec
