/- Plain mathematics and strings for HkdfInfos: infos of unlike labels, contexts or lengths are unlike; bytes as strings. -/
import Derived.Test.YtfcnhendebjjeaaDoorHkRefI
import Derived.Test.YtfcnhendebjjeaaDoorHkRow
namespace Go.Proofs.YtfcnhendebjjeaaDoor.Sha
set_option linter.all false
open Go.RowKit Iter

theorem foldl_push (ns : List Int) : ∀ r : ByteArray, ns.foldl (fun r n => r.push (UInt8.ofNat n.toNat)) r = ⟨r.data ++ (ns.map fun n => UInt8.ofNat n.toNat).toArray⟩ := by
  induction ns with
  | nil => intro r; simp
  | cons n ns ih => intro r; rw [List.foldl_cons, ih]; simp [ByteArray.push]
/-- a text as a string -/
theorem conv_rd {w : World} {B : Nat} {A : Option Addr} {bs : List Nat} {n c : Nat} (hR : Rd w B A bs) (hn : bs.length = n) :
    (convert 22 9 (.slice A n c)).run Tryd.prog w = .ok (.string (txt bs)) w := by
  rw [run_convert_bytes_string w 22 9 5 A n c Tryd.underlying22 Tryd.underlying5 Tryd.underlying9]
  cases A with
  | none =>
    have h0 : n = 0 := by
      rcases Nat.eq_zero_or_pos n with h | h
      · exact h
      · obtain ⟨ad, e, _⟩ := hR.2 (by omega)
        cases e
    subst h0
    obtain rfl : bs = [] := List.eq_nil_of_length_eq_zero hn
    simp [Conv.bytesToString]
    rfl
  | some ad =>
    have hl : (loadCells ad n).run Tryd.prog w = .ok ((bs.map fun x => ((x : Nat) : Int)).map (Value.int .u8)).toArray w := by
      have := run_loadCells_list (P := Tryd.prog) w ad (bcells bs) (fun j v hv => news_of_rd hR j v hv)
      rw [bcells_len, hn] at this
      rw [this, List.map_map]; rfl
    rw [run_bytesToString w ad n c _ hl, foldl_push]
    simp [txt, strOfNums]
theorem strL_txt {bs : List Nat} (h : ∀ j, gt bs j < 256) : strL (txt bs) = bs := by
  unfold strL txt strOfNums
  dsimp only
  rw [List.map_map, List.map_map]
  conv => rhs; rw [← List.map_id bs]
  apply List.map_congr_left
  intro x hx
  have hx' : x < 256 := by
    obtain ⟨i, hi, e⟩ := List.getElem_of_mem hx
    have := h i
    unfold gt at this
    rw [List.getD_eq_getElem?_getD, List.getElem?_eq_getElem hi] at this
    rw [← e]; exact this
  show (UInt8.ofNat ((x : Nat) : Int).toNat).toNat = x
  rw [Int.toNat_natCast, UInt8.toNat_ofNat']
  omega
theorem txt_inj {a b : List Nat} (ha : ∀ j, gt a j < 256) (hb : ∀ j, gt b j < 256) : txt a = txt b ↔ a = b :=
  ⟨fun h => by rw [← strL_txt ha, ← strL_txt hb, h], fun h => by rw [h]⟩
theorem strL_inj {s t : ByteArray} (h : strL s = strL t) : s = t := by
  cases s with
  | mk s =>
    cases t with
    | mk t =>
      congr 1
      apply Array.toList_inj.1
      exact (List.map_inj_right fun a b e => UInt8.toNat_inj.1 e).1 h

theorem str_ne {a b : ByteArray} (h : ¬ a = b) : (a == b) = false := by
  cases a with
  | mk a =>
    cases b with
    | mk b =>
      show (a == b) = false
      rw [beq_eq_false_iff_ne]
      intro e
      exact h (by rw [e])
theorem loop_eq (s : ByteArray) : ∀ (n i : Nat) (r : List UInt8), s.size - i = n → ByteArray.toList.loop s i r = r.reverse ++ s.data.toList.drop i := by
  intro n
  induction n with
  | zero =>
    intro i r h
    unfold ByteArray.toList.loop
    rw [if_neg (by omega)]
    have : s.data.toList.drop i = [] := List.drop_eq_nil_of_le (by rw [Array.length_toList]; show s.size ≤ i; omega)
    rw [this, List.append_nil]
  | succ n ih =>
    intro i r h
    unfold ByteArray.toList.loop
    have hi : i < s.size := by omega
    rw [if_pos hi, ih (i + 1) _ (by omega)]
    have hi' : i < s.data.toList.length := by rw [Array.length_toList]; exact hi
    rw [List.drop_eq_getElem_cons hi', List.reverse_cons, List.append_assoc]
    congr 2
    simp [ByteArray.get!, hi]
theorem str_tl {a b : ByteArray} (h : ¬ a = b) : ¬ a.toList = b.toList := by
  have e : ∀ s : ByteArray, s.toList = s.data.toList := fun s => by unfold ByteArray.toList; rw [loop_eq s s.size 0 [] rfl]; rfl
  rw [e, e]
  intro h'
  apply h
  cases a with
  | mk a =>
    cases b with
    | mk b => exact congrArg ByteArray.mk (Array.toList_inj.1 h')
theorem lenB_inj {c d : List Nat} (hc : c.length ≤ 16000) (hd : d.length ≤ 16000) (h : lenB c.length ++ c = lenB d.length ++ d) : c = d := by
  unfold lenB at h
  by_cases h1 : c.length < 64 <;> by_cases h2 : d.length < 64
  · rw [if_pos h1, if_pos h2] at h
    exact (List.cons.inj h).2
  · rw [if_pos h1, if_neg h2] at h
    have := (List.cons.inj h).1
    omega
  · rw [if_neg h1, if_pos h2] at h
    have := (List.cons.inj h).1
    omega
  · rw [if_neg h1, if_neg h2] at h
    exact (List.cons.inj (List.cons.inj h).2).2
theorem infoL_inj {a b x y : List Nat} {n m : Nat} (hx : x.length ≤ 16000) (hy : y.length ≤ 16000) (hn : n < 256) (hm : m < 256) : infoL a x n = infoL b y m ↔ (a = b ∧ x = y) ∧ n = m := by
  constructor
  · intro h
    unfold infoL at h
    obtain ⟨h1, h2⟩ := List.append_inj h rfl
    obtain ⟨h3, h4⟩ := List.append_inj h2 rfl
    obtain ⟨_, h5⟩ := List.append_inj h4 rfl
    have hl : a.length = b.length := by have := (List.cons.inj h3).1; omega
    obtain ⟨h6, h7⟩ := List.append_inj h5 hl
    refine ⟨⟨h6, lenB_inj hx hy h7⟩, ?_⟩
    unfold two at h1
    have e1 := (List.cons.inj h1).1
    have e2 := (List.cons.inj (List.cons.inj h1).2).1
    omega
  · rintro ⟨⟨rfl, rfl⟩, rfl⟩; rfl

end Go.Proofs.YtfcnhendebjjeaaDoor.Sha
