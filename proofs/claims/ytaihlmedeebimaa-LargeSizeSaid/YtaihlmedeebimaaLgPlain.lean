/- Plain mathematics of layer 7: numbers modulo 8380417, a level of the transform, the transform, what it was, products; nothing of the program. -/
import Derived.Lib.Hide
namespace Go.Proofs.Ytaihlmedeebimaa.Lg
set_option linter.all false

abbrev F := Fin 8380417
def red (n : Int) : F := ⟨(n % 8380417).toNat, by omega⟩
def nv (x : F) : Int := (x.val : Int)
theorem nv_lo (x : F) : 0 ≤ nv x := by unfold nv; omega
theorem nv_hi (x : F) : nv x < 8380417 := by unfold nv; omega
theorem nv_inj {x y : F} (h : nv x = nv y) : x = y := by
  unfold nv at h; apply Fin.ext; omega
theorem red_nv (x : F) : red (nv x) = x := by
  apply Fin.ext; unfold red nv; show ((x.val : Int) % 8380417).toNat = x.val; omega
theorem nv_red (n : Int) : nv (red n) = n % 8380417 := by unfold nv red; show (((n % 8380417).toNat : Nat) : Int) = _; omega
theorem red_eq {a b : Int} (h : a % 8380417 = b % 8380417) : red a = red b := by
  apply Fin.ext; unfold red; show (a % 8380417).toNat = (b % 8380417).toNat; rw [h]
theorem red_add (a b : Int) : red (a + b) = red a + red b := by
  apply Fin.ext; rw [Fin.val_add]; unfold red; show ((a + b) % 8380417).toNat = ((a % 8380417).toNat + (b % 8380417).toNat) % 8380417; omega
theorem red_sub (a b : Int) : red (a - b) = red a - red b := by
  apply Fin.ext; rw [Fin.sub_def]; unfold red; show ((a - b) % 8380417).toNat = (8380417 - (b % 8380417).toNat + (a % 8380417).toNat) % 8380417; omega
theorem red_mul (a b : Int) : red (a * b) = red a * red b := by
  apply Fin.ext; rw [Fin.val_mul]; unfold red; show ((a * b) % 8380417).toNat = ((a % 8380417).toNat * (b % 8380417).toNat) % 8380417
  have h1 : 0 ≤ a % 8380417 := by omega
  have h2 : 0 ≤ b % 8380417 := by omega
  have h3 : (((a % 8380417).toNat * (b % 8380417).toNat % 8380417 : Nat) : Int) = a * b % 8380417 := by
    rw [Int.natCast_emod, Int.natCast_mul, Int.toNat_of_nonneg h1, Int.toNat_of_nonneg h2]
    exact (Int.mul_emod a b 8380417).symm
  omega
theorem red_idem (n : Int) : red (n % 8380417) = red n := red_eq (by omega)
theorem tmod_twice (n : Int) : (n.tmod 8380417 + 8380417).tmod 8380417 = nv (red n) := by
  rw [nv_red]
  rcases Int.le_total 0 n with h | h
  · rw [Int.tmod_eq_emod_of_nonneg h, Int.tmod_eq_emod_of_nonneg (by omega)]; omega
  · have e : n.tmod 8380417 = - ((-n) % 8380417) := by
      rw [show n.tmod 8380417 = -((-n).tmod 8380417) by rw [Int.neg_tmod]; omega, Int.tmod_eq_emod_of_nonneg (by omega)]
    rw [e, Int.tmod_eq_emod_of_nonneg (by omega)]; omega
theorem mul_bd (x y : F) : 0 ≤ nv x * nv y ∧ nv x * nv y ≤ 70231372333056 := by
  have a := nv_lo x; have b := nv_lo y; have c := nv_hi x; have d := nv_hi y
  refine ⟨Int.mul_nonneg a b, ?_⟩
  calc nv x * nv y ≤ 8380416 * nv y := Int.mul_le_mul_of_nonneg_right (by omega) b
    _ ≤ 8380416 * 8380416 := by omega
    _ = 70231372333056 := by decide

/-! ### A level -/
def ch0 (z lo hi : F) : F × F := (lo + z * hi, lo - z * hi)
def ch1 (z lo hi : F) : F × F := (lo + hi, z * (lo - hi))
def lev (ch : F → F → F → F × F) (zs : Nat → F) (n : Nat) (f : Nat → F) : Nat → F := fun i =>
  if i % (2 * n) < n then (ch (zs (i / (2 * n))) (f i) (f (i + n))).1 else (ch (zs (i / (2 * n))) (f (i - n)) (f i)).2
theorem at_div (b m r : Nat) (h : r < m) : (b * m + r) / m = b ∧ (b * m + r) % m = r := by
  have hm : 0 < m := by omega
  constructor
  · rw [Nat.mul_comm, Nat.mul_add_div hm, Nat.div_eq_of_lt h, Nat.add_zero]
  · rw [Nat.mul_comm, Nat.mul_add_mod, Nat.mod_eq_of_lt h]
section
variable (ch : F → F → F → F × F) (zs : Nat → F) (n : Nat) (f : Nat → F)
theorem lev_lo (b r : Nat) (h : r < n) : lev ch zs n f (b * (2 * n) + r) = (ch (zs b) (f (b * (2 * n) + r)) (f (b * (2 * n) + r + n))).1 := by
  obtain ⟨h1, h2⟩ := at_div b (2 * n) r (by omega)
  unfold lev
  rw [h2, if_pos h, h1]
theorem lev_hi (b r : Nat) (h : r < n) : lev ch zs n f (b * (2 * n) + n + r) = (ch (zs b) (f (b * (2 * n) + r)) (f (b * (2 * n) + n + r))).2 := by
  obtain ⟨h1, h2⟩ := at_div b (2 * n) (n + r) (by omega)
  unfold lev
  rw [← Nat.add_assoc] at h1 h2
  rw [h2, if_neg (by omega), h1, show b * (2 * n) + n + r - n = b * (2 * n) + r by omega]
end
theorem split_at (n i : Nat) (h : 0 < n) : ∃ b r, r < n ∧ (i = b * (2 * n) + r ∨ i = b * (2 * n) + n + r) := by
  have h1 := Nat.div_add_mod i (2 * n)
  have h2 := Nat.mod_lt i (show 0 < 2 * n by omega)
  rw [Nat.mul_comm] at h1
  by_cases h3 : i % (2 * n) < n
  · exact ⟨i / (2 * n), i % (2 * n), h3, .inl h1.symm⟩
  · exact ⟨i / (2 * n), i % (2 * n) - n, by omega, .inr (by omega)⟩
theorem lev_ext {n : Nat} (hn : 0 < n) {f g : Nat → F} (h : ∀ b r, r < n → f (b * (2 * n) + r) = g (b * (2 * n) + r) ∧ f (b * (2 * n) + n + r) = g (b * (2 * n) + n + r)) : f = g := by
  funext i
  obtain ⟨b, r, hr, e | e⟩ := split_at n i hn
  · rw [e]; exact (h b r hr).1
  · rw [e]; exact (h b r hr).2

def sc (c : F) (f : Nat → F) : Nat → F := fun i => c * f i
def pl (f g : Nat → F) : Nat → F := fun i => f i + g i
def mi (f g : Nat → F) : Nat → F := fun i => f i - g i
theorem lev0_sc (zs : Nat → F) {n : Nat} (hn : 0 < n) (c : F) (f : Nat → F) : lev ch0 zs n (sc c f) = sc c (lev ch0 zs n f) :=
  lev_ext hn fun b r hr => by
    constructor
    · simp only [sc, lev_lo _ _ _ _ b r hr, ch0]; grind
    · simp only [sc, lev_hi _ _ _ _ b r hr, ch0]; grind
theorem lev1_sc (zs : Nat → F) {n : Nat} (hn : 0 < n) (c : F) (f : Nat → F) : lev ch1 zs n (sc c f) = sc c (lev ch1 zs n f) :=
  lev_ext hn fun b r hr => by
    constructor
    · simp only [sc, lev_lo _ _ _ _ b r hr, ch1]; grind
    · simp only [sc, lev_hi _ _ _ _ b r hr, ch1]; grind
theorem lev0_pl (zs : Nat → F) {n : Nat} (hn : 0 < n) (f g : Nat → F) : lev ch0 zs n (pl f g) = pl (lev ch0 zs n f) (lev ch0 zs n g) :=
  lev_ext hn fun b r hr => by
    constructor
    · simp only [pl, lev_lo _ _ _ _ b r hr, ch0]; grind
    · simp only [pl, lev_hi _ _ _ _ b r hr, ch0]; grind
/-- back, behind forth: all are doubled -/
theorem lev10 (zs zt : Nat → F) {n : Nat} (hn : 0 < n) (h : ∀ b, zt b * zs b = 1) (f : Nat → F) : lev ch1 zt n (lev ch0 zs n f) = sc 2 f :=
  lev_ext hn fun b r hr => by
    have hb := h b
    have e : b * (2 * n) + r + n = b * (2 * n) + n + r := by omega
    constructor
    · simp only [sc, lev_lo _ _ _ _ b r hr, ch1]
      rw [e, lev_hi _ _ _ _ b r hr]; simp only [ch0]; grind
    · simp only [sc, lev_hi _ _ _ _ b r hr, lev_lo _ _ _ _ b r hr, ch1]
      rw [e]; simp only [ch0]; grind
theorem lev01 (zs zt : Nat → F) {n : Nat} (hn : 0 < n) (h : ∀ b, zt b * zs b = 1) (f : Nat → F) : lev ch0 zs n (lev ch1 zt n f) = sc 2 f :=
  lev_ext hn fun b r hr => by
    have hb := h b
    have e : b * (2 * n) + r + n = b * (2 * n) + n + r := by omega
    constructor
    · simp only [sc, lev_lo _ _ _ _ b r hr, ch0]
      rw [e, lev_hi _ _ _ _ b r hr]; simp only [ch1]; grind
    · simp only [sc, lev_hi _ _ _ _ b r hr, lev_lo _ _ _ _ b r hr, ch0]
      rw [e]; simp only [ch1]; grind

/-! ### The powers -/
def pw : Nat → F
  | 0 => 1
  | n + 1 => pw n * 1753
def tn (i : Nat) : Nat := i / 128 % 2 + 2 * (i / 64 % 2) + 4 * (i / 32 % 2) + 8 * (i / 16 % 2) + 16 * (i / 8 % 2) + 32 * (i / 4 % 2) + 64 * (i / 2 % 2) + 128 * (i % 2)
def zv (i : Nat) : F := pw (tn i)
theorem tn_lt (i : Nat) : tn i < 256 := by unfold tn; omega
theorem tn_tn : ∀ i, i < 256 → tn (tn i) = i := by decide +kernel
/-- the roots of the forward levels, and of the backward ones -/
def zf (l : Nat) (b : Nat) : F := zv (2 ^ l + b % 2 ^ l)
def zb (l : Nat) (b : Nat) : F := - zv (2 ^ (8 - l) - 1 - b % 2 ^ (7 - l))
def nf (l : Nat) : Nat := 128 / 2 ^ l
def nttTo : Nat → (Nat → F) → Nat → F
  | 0, f => f
  | l + 1, f => lev ch0 (zf l) (nf l) (nttTo l f)
def invTo : Nat → (Nat → F) → Nat → F
  | 0, f => f
  | l + 1, f => lev ch1 (zb l) (2 ^ l) (invTo l f)
def ntt (f : Nat → F) : Nat → F := nttTo 8 f
def inv (f : Nat → F) : Nat → F := sc 8347681 (invTo 8 f)

theorem nf_pos : ∀ l, l < 8 → 0 < nf l := by decide
theorem nf_back : ∀ l, l < 8 → nf (7 - l) = 2 ^ l := by decide
theorem roots_cross : ∀ l, l < 8 → ∀ b, b < 2 ^ (7 - l) → - zv (2 ^ (8 - l) - 1 - b) * zv (2 ^ (7 - l) + b) = 1 := by decide +kernel
theorem zb_zf (l : Nat) (h : l < 8) (b : Nat) : zb l b * zf (7 - l) b = 1 := roots_cross l h _ (Nat.mod_lt _ (Nat.two_pow_pos _))
theorem sc_sc (a b : F) (f : Nat → F) : sc a (sc b f) = sc (a * b) f := by funext i; simp only [sc]; grind
theorem sc_one (f : Nat → F) : sc 1 f = f := by funext i; simp only [sc]; grind
def two : Nat → F
  | 0 => 1
  | n + 1 => two n * 2
theorem two_eight : 8347681 * two 8 = 1 := by decide
theorem nttTo_sc (c : F) (f : Nat → F) : ∀ l, l ≤ 8 → nttTo l (sc c f) = sc c (nttTo l f)
  | 0, _ => rfl
  | l + 1, h => by
    show lev ch0 _ _ (nttTo l (sc c f)) = sc c (lev ch0 _ _ (nttTo l f))
    rw [nttTo_sc c f l (by omega), lev0_sc _ (nf_pos l (by omega))]
theorem invTo_ntt (f : Nat → F) : ∀ l, l ≤ 8 → invTo l (ntt f) = sc (two l) (nttTo (8 - l) f)
  | 0, _ => (sc_one _).symm
  | l + 1, h => by
    show lev ch1 (zb l) (2 ^ l) (invTo l (ntt f)) = _
    rw [invTo_ntt f l (by omega), lev1_sc _ (Nat.two_pow_pos _)]
    obtain ⟨k, hk⟩ : ∃ k, 8 - l = k + 1 := ⟨7 - l, by omega⟩
    have hk' : 7 - l = k := by omega
    rw [hk]
    show sc (two l) (lev ch1 (zb l) (2 ^ l) (lev ch0 (zf k) (nf k) (nttTo k f))) = _
    have e := nf_back l (by omega)
    rw [hk'] at e
    rw [← e, lev10 _ _ (by rw [e]; exact Nat.two_pow_pos _) (fun b => by have := zb_zf l (by omega) b; rwa [hk'] at this), sc_sc]
    rw [show 8 - (l + 1) = k by omega]; rfl
theorem inv_ntt (f : Nat → F) : inv (ntt f) = f := by
  unfold inv
  rw [invTo_ntt f 8 (Nat.le_refl _), sc_sc, two_eight, sc_one]; rfl
theorem nttTo_inv (f : Nat → F) : ∀ l, l ≤ 8 → nttTo l (invTo 8 f) = sc (two l) (invTo (8 - l) f)
  | 0, _ => (sc_one _).symm
  | l + 1, h => by
    show lev ch0 (zf l) (nf l) (nttTo l (invTo 8 f)) = _
    rw [nttTo_inv f l (by omega), lev0_sc _ (nf_pos l (by omega))]
    obtain ⟨k, hk⟩ : ∃ k, 8 - l = k + 1 := ⟨7 - l, by omega⟩
    have hk' : 7 - k = l := by omega
    rw [hk]
    show sc (two l) (lev ch0 (zf l) (nf l) (lev ch1 (zb k) (2 ^ k) (invTo k f))) = _
    have e := nf_back k (by omega)
    rw [hk'] at e
    rw [← e, lev01 _ _ (nf_pos l (by omega)) (fun b => by have := zb_zf k (by omega) b; rwa [hk'] at this), sc_sc]
    rw [show 8 - (l + 1) = k by omega]; rfl
theorem ntt_inv (f : Nat → F) : ntt (inv f) = f := by
  unfold inv ntt
  rw [nttTo_sc _ _ 8 (Nat.le_refl _), nttTo_inv f 8 (Nat.le_refl _), sc_sc, two_eight, sc_one]; rfl
theorem nttTo_pl (f g : Nat → F) : ∀ l, l ≤ 8 → nttTo l (pl f g) = pl (nttTo l f) (nttTo l g)
  | 0, _ => rfl
  | l + 1, h => by
    show lev ch0 _ _ (nttTo l (pl f g)) = pl (lev ch0 _ _ (nttTo l f)) (lev ch0 _ _ (nttTo l g))
    rw [nttTo_pl f g l (by omega), lev0_pl _ (nf_pos l (by omega))]
theorem ntt_pl (f g : Nat → F) : ntt (pl f g) = pl (ntt f) (ntt g) := nttTo_pl f g 8 (Nat.le_refl _)
theorem ntt_sc (c : F) (f : Nat → F) : ntt (sc c f) = sc c (ntt f) := nttTo_sc c f 8 (Nat.le_refl _)

/-! ### Products of transforms -/
def tim (f g : Nat → F) : Nat → F := fun j => f j * g j
theorem tim_comm (f g : Nat → F) : tim f g = tim g f := by funext j; unfold tim; grind
theorem tim_pl (c f g : Nat → F) : tim c (pl f g) = pl (tim c f) (tim c g) := by funext j; simp only [tim, pl]; grind
theorem tim_sc (k : F) (c f : Nat → F) : tim c (sc k f) = sc k (tim c f) := by funext j; simp only [tim, sc]; grind
def uno : Nat → F := fun _ => 1
theorem tim_uno (f : Nat → F) : tim f uno = f := by funext j; simp only [tim, uno]; grind

/-! ### Times X -/
def xs (zt : Nat → F) (n : Nat) (f : Nat → F) : Nat → F := fun i => if i % n = 0 then zt (i / n) * f (i + n - 1) else f (i - 1)
theorem xs_zero (zt : Nat → F) (n : Nat) (f : Nat → F) (c : Nat) (hn : 0 < n) : xs zt n f (c * n) = zt c * f (c * n + n - 1) := by
  unfold xs; rw [if_pos (Nat.mul_mod_left c n), Nat.mul_div_cancel c hn]
theorem xs_pos (zt : Nat → F) (n : Nat) (f : Nat → F) (c r : Nat) (h0 : 0 < r) (hr : r < n) : xs zt n f (c * n + r) = f (c * n + r - 1) := by
  unfold xs; rw [(at_div c n r hr).2, if_neg (by omega)]
theorem lev_xs (zs zt zu : Nat → F) {n : Nat} (hn : 0 < n) (h2 : ∀ b, zt b = zs b * zs b) (h0 : ∀ b, zu (2 * b) = zs b) (h1 : ∀ b, zu (2 * b + 1) = - zs b) (f : Nat → F) :
    lev ch0 zs n (xs zt (2 * n) f) = xs zu n (lev ch0 zs n f) := lev_ext hn fun b r hr => by
  have e0 : b * (2 * n) = (2 * b) * n := by rw [Nat.mul_comm 2 b, Nat.mul_assoc]
  have e1 : b * (2 * n) + n = (2 * b + 1) * n := by rw [Nat.add_mul, Nat.one_mul, e0]
  have eX := xs_zero zt (2 * n) f b (by omega)
  have a2 := h2 b; have a0 := h0 b; have a1 := h1 b
  have L := lev_lo ch0 zs n f b; have H := lev_hi ch0 zs n f b
  rw [lev_lo _ _ _ _ b r hr, lev_hi _ _ _ _ b r hr]
  by_cases h : r = 0
  · subst h
    have x1 := xs_zero zu n (lev ch0 zs n f) (2 * b) hn
    have x2 := xs_zero zu n (lev ch0 zs n f) (2 * b + 1) hn
    have x3 := xs_pos zt (2 * n) f b n hn (by omega)
    rw [← e0] at x1; rw [← e1] at x2
    have l1 := L (n - 1) (by omega); have l2 := H (n - 1) (by omega)
    simp only [Nat.add_zero] at *
    rw [x1, x2, eX, x3]
    have s1 : b * (2 * n) + n - 1 = b * (2 * n) + (n - 1) := by omega
    have s2 : b * (2 * n) + n + n - 1 = b * (2 * n) + n + (n - 1) := by omega
    have s3 : b * (2 * n) + 2 * n - 1 = b * (2 * n) + n + (n - 1) := by omega
    have s4 : b * (2 * n) + (n - 1) + n = b * (2 * n) + n + (n - 1) := by omega
    rw [s1, s2, s3, l1, l2, s4]
    simp only [ch0]
    grind
  · have x1 := xs_pos zu n (lev ch0 zs n f) (2 * b) r (by omega) hr
    have x2 := xs_pos zu n (lev ch0 zs n f) (2 * b + 1) r (by omega) hr
    have x3 := xs_pos zt (2 * n) f b r (by omega) (by omega)
    have x4 := xs_pos zt (2 * n) f b (n + r) (by omega) (by omega)
    rw [← e0] at x1; rw [← e1] at x2
    have l1 := L (r - 1) (by omega); have l2 := H (r - 1) (by omega)
    have s1 : b * (2 * n) + r - 1 = b * (2 * n) + (r - 1) := by omega
    have s2 : b * (2 * n) + n + r - 1 = b * (2 * n) + n + (r - 1) := by omega
    have s3 : b * (2 * n) + (n + r) - 1 = b * (2 * n) + n + (r - 1) := by omega
    have s4 : b * (2 * n) + (n + r) = b * (2 * n) + n + r := by omega
    have s5 : b * (2 * n) + r + n = b * (2 * n) + n + r := by omega
    have s6 : b * (2 * n) + (r - 1) + n = b * (2 * n) + n + (r - 1) := by omega
    rw [s4] at x4
    rw [x1, x2, s5, x3, x4, s1, s2, l1, l2, s6]
    exact ⟨rfl, rfl⟩
def zt : Nat → Nat → F
  | 0, _ => -1
  | l + 1, c => if c % 2 = 0 then zf l (c / 2) else - zf l (c / 2)
theorem zt_even (l b : Nat) : zt (l + 1) (2 * b) = zf l b := by show (if _ then _ else _) = _; rw [if_pos (by omega), show 2 * b / 2 = b by omega]
theorem zt_odd (l b : Nat) : zt (l + 1) (2 * b + 1) = - zf l b := by show (if _ then _ else _) = _; rw [if_neg (by omega), show (2 * b + 1) / 2 = b by omega]
theorem squares : ∀ l, l < 8 → ∀ b, b < 2 ^ l → zt l b = zv (2 ^ l + b) * zv (2 ^ l + b) := by decide +kernel
theorem zt_mod : ∀ l c, zt l (c % 2 ^ l) = zt l c
  | 0, c => rfl
  | l + 1, c => by
    show (if _ then _ else _) = (if _ then _ else _)
    have e1 : c % 2 ^ (l + 1) % 2 = c % 2 := by rw [Nat.pow_succ, Nat.mul_comm, Nat.mod_mul_right_mod]
    have e2 : c % 2 ^ (l + 1) / 2 = c / 2 % 2 ^ l := by rw [Nat.pow_succ, Nat.mul_comm]; exact Nat.mod_mul_right_div_self c 2 (2 ^ l)
    have e3 : ∀ b, zf l (b % 2 ^ l) = zf l b := fun b => by unfold zf; rw [Nat.mod_mod]
    rw [e1, e2, e3]
theorem zt_square (l : Nat) (h : l < 8) (b : Nat) : zt l b = zf l b * zf l b := by
  rw [← zt_mod]; exact squares l h _ (Nat.mod_lt _ (Nat.two_pow_pos _))
theorem nf_twice : ∀ l, l < 8 → 2 * nf l = 256 / 2 ^ l ∧ 256 / 2 ^ (l + 1) = nf l := by decide
def shX (f : Nat → F) : Nat → F := xs (fun _ => -1) 256 f
theorem nttTo_shX (f : Nat → F) : ∀ l, l ≤ 8 → nttTo l (shX f) = xs (zt l) (256 / 2 ^ l) (nttTo l f)
  | 0, _ => rfl
  | l + 1, h => by
    show lev ch0 (zf l) (nf l) (nttTo l (shX f)) = xs (zt (l + 1)) _ (lev ch0 (zf l) (nf l) (nttTo l f))
    obtain ⟨e1, e2⟩ := nf_twice l (by omega)
    rw [nttTo_shX f l (by omega), ← e1, e2, lev_xs (zf l) (zt l) (zt (l + 1)) (nf_pos l (by omega)) (zt_square l (by omega)) (zt_even l) (zt_odd l)]
def mx (f : Nat → F) : Nat → F := fun j => zt 8 j * f j
theorem tim_mx (f g : Nat → F) : tim f (mx g) = mx (tim f g) := by funext j; simp only [tim, mx]; grind
theorem ntt_shX (f : Nat → F) : ntt (shX f) = mx (ntt f) := by
  unfold ntt
  rw [nttTo_shX f 8 (Nat.le_refl _)]
  funext j
  show xs (zt 8) 1 _ j = mx _ j
  unfold xs mx
  rw [if_pos (Nat.mod_one j), Nat.div_one, Nat.add_sub_cancel]
def dl (n : Nat) : Nat → F := fun i => if i % n = 0 then 1 else 0
theorem lev_dl (zs : Nat → F) {n : Nat} (hn : 0 < n) : lev ch0 zs n (dl (2 * n)) = dl n := lev_ext hn fun b r hr => by
  have e0 : b * (2 * n) = (2 * b) * n := by rw [Nat.mul_comm 2 b, Nat.mul_assoc]
  have e1 : b * (2 * n) + n = (2 * b + 1) * n := by rw [Nat.add_mul, Nat.one_mul, e0]
  have a1 : (b * (2 * n) + r) % (2 * n) = r := (at_div b (2 * n) r (by omega)).2
  have a2 : (b * (2 * n) + n + r) % (2 * n) = n + r := by rw [Nat.add_assoc]; exact (at_div b (2 * n) (n + r) (by omega)).2
  have a3 : (b * (2 * n) + r) % n = r := by rw [e0]; exact (at_div (2 * b) n r hr).2
  have a4 : (b * (2 * n) + n + r) % n = r := by rw [e1]; exact (at_div (2 * b + 1) n r hr).2
  rw [lev_lo _ _ _ _ b r hr, lev_hi _ _ _ _ b r hr, show b * (2 * n) + r + n = b * (2 * n) + n + r by omega]
  simp only [dl, a1, a2, a3, a4, ch0]
  rw [if_neg (show ¬ n + r = 0 by omega)]
  constructor <;> grind
theorem nttTo_dl : ∀ l, l ≤ 8 → nttTo l (dl 256) = dl (256 / 2 ^ l)
  | 0, _ => rfl
  | l + 1, h => by
    show lev ch0 (zf l) (nf l) (nttTo l (dl 256)) = _
    obtain ⟨e1, e2⟩ := nf_twice l (by omega)
    rw [nttTo_dl l (by omega), ← e1, e2, lev_dl _ (nf_pos l (by omega))]
theorem ntt_dl : ntt (dl 256) = uno := by
  unfold ntt
  rw [nttTo_dl 8 (Nat.le_refl _)]
  funext j
  show (if j % 1 = 0 then (1 : F) else 0) = 1
  rw [if_pos (Nat.mod_one j)]

/-! ### Within 256 -/
def Eqv (f g : Nat → F) : Prop := ∀ i, i < 256 → f i = g i
theorem Eqv.refl (f : Nat → F) : Eqv f f := fun _ _ => rfl
theorem Eqv.trans {f g h : Nat → F} (a : Eqv f g) (b : Eqv g h) : Eqv f h := fun i hi => (a i hi).trans (b i hi)
theorem Eqv.symm {f g : Nat → F} (a : Eqv f g) : Eqv g f := fun i hi => (a i hi).symm
theorem lev_eqv (ch : F → F → F → F × F) (zs zs' : Nat → F) (n m : Nat) (h2 : 2 * n * m = 256) (hz : ∀ b, b < m → zs b = zs' b) {f g : Nat → F} (h : Eqv f g) : Eqv (lev ch zs n f) (lev ch zs' n g) := by
  intro i hi
  have hm : i / (2 * n) < m := by
    have : 0 < 2 * n := Nat.pos_of_ne_zero fun e => by rw [e] at h2; simp at h2
    exact (Nat.div_lt_iff_lt_mul this).2 (by rw [Nat.mul_comm, h2]; exact hi)
  have hm2 : i % (2 * n) < n → i + n < 256 := fun h => by
    have h1 := Nat.div_add_mod i (2 * n)
    have h3 : 2 * n * (i / (2 * n)) + 2 * n ≤ 2 * n * m := by
      calc 2 * n * (i / (2 * n)) + 2 * n = 2 * n * (i / (2 * n) + 1) := by rw [Nat.mul_add, Nat.mul_one]
        _ ≤ 2 * n * m := Nat.mul_le_mul_left _ hm
    omega
  unfold lev
  rw [hz _ hm, h i hi]
  split
  · rename_i h4
    rw [h _ (hm2 h4)]
  · rw [h (i - n) (by omega)]
theorem nf_whole : ∀ l, l < 8 → 2 * nf l * 2 ^ l = 256 := by decide
theorem nb_whole : ∀ l, l < 8 → 2 * 2 ^ l * 2 ^ (7 - l) = 256 := by decide
theorem nttTo_eqv {f g : Nat → F} (h : Eqv f g) : ∀ l, l ≤ 8 → Eqv (nttTo l f) (nttTo l g)
  | 0, _ => h
  | l + 1, hl => lev_eqv ch0 _ _ _ (2 ^ l) (nf_whole l (by omega)) (fun _ _ => rfl) (nttTo_eqv h l (by omega))
theorem ntt_eqv {f g : Nat → F} (h : Eqv f g) : Eqv (ntt f) (ntt g) := nttTo_eqv h 8 (Nat.le_refl _)
theorem invTo_eqv {f g : Nat → F} (h : Eqv f g) : ∀ l, l ≤ 8 → Eqv (invTo l f) (invTo l g)
  | 0, _ => h
  | l + 1, hl => lev_eqv ch1 _ _ _ (2 ^ (7 - l)) (nb_whole l (by omega)) (fun _ _ => rfl) (invTo_eqv h l (by omega))
theorem inv_eqv {f g : Nat → F} (h : Eqv f g) : Eqv (inv f) (inv g) := fun i hi => by unfold inv sc; rw [invTo_eqv h 8 (Nat.le_refl _) i hi]
theorem tim_eqv {f g f' g' : Nat → F} (h : Eqv f f') (k : Eqv g g') : Eqv (tim f g) (tim f' g') := fun i hi => by unfold tim; rw [h i hi, k i hi]
theorem pl_eqv {f g f' g' : Nat → F} (h : Eqv f f') (k : Eqv g g') : Eqv (pl f g) (pl f' g') := fun i hi => by unfold pl; rw [h i hi, k i hi]
theorem mi_eqv {f g f' g' : Nat → F} (h : Eqv f f') (k : Eqv g g') : Eqv (mi f g) (mi f' g') := fun i hi => by unfold mi; rw [h i hi, k i hi]
end Go.Proofs.Ytaihlmedeebimaa.Lg
