/-
  The reference's Number, as mathematics: a sign, digits one by one, and the bounds; no program stands here. Conditions: none.
-/
import Derived.Test.YtappfojjjegnpaaGreatDoorCtI
import Derived.Lib.ItoaLen
namespace Go.Proofs.YtappfojjjegnpaaGreatDoor.LexM
open Go.Lib

/-- A number's sign, and the digits behind it. -/
def neg (l : List UInt8) : Bool := l.head? == some 45
def digs (l : List UInt8) : List UInt8 := if neg l = true then l.tail else l
def sgn (l : List UInt8) : Int := if neg l = true then -1 else 1
theorem val_mono (a b : List UInt8) : val a ≤ val (a ++ b) := by
  unfold val; rw [List.foldl_append]; exact fin_ge b _
theorem itoa_len20 {v : Int} (h : In63 v) : (itoa v).length ≤ 20 := by
  obtain ⟨h0, h1⟩ := h
  by_cases hn : v < 0
  · obtain ⟨u, hu, _, e⟩ := itoa_minus hn
    rw [e, List.length_cons, decDigits_length]
    have := nDigits_le 18 u (by omega)
    omega
  · obtain ⟨u, hu, e⟩ := itoa_plus (by omega : 0 ≤ v)
    rw [e, decDigits_length]
    have := nDigits_le 18 u (by omega)
    omega
theorem dec_not_minus (u : Nat) : (decDigits u).head? ≠ some 45 := by
  have hd := dec_digits u
  cases h : decDigits u with
  | nil => simp
  | cons c r =>
    rw [h] at hd
    have := (head_digit hd).2
    simp only [List.head?_cons, ne_eq, Option.some.injEq]
    intro e; subst e; exact this rfl
/-- What an int's text is made of. -/
theorem int_parts {l : List UInt8} (h : isInt l = true) : (digs l).all isDigit = true ∧ digs l ≠ [] ∧ intVal l = sgn l * val (digs l) ∧ In63 (sgn l * val (digs l)) ∧ l.length ≤ 20 := by
  obtain ⟨e, hI, _⟩ := isInt_val h
  have hlen : l.length ≤ 20 := by rw [← e]; exact itoa_len20 hI
  by_cases hn : intVal l < 0
  · obtain ⟨u, hu, _, e2⟩ := itoa_minus hn
    rw [e] at e2
    have hneg : neg l = true := by rw [e2]; rfl
    have hd : digs l = decDigits u := by unfold digs; rw [if_pos hneg, e2]; rfl
    have hs : sgn l = -1 := by unfold sgn; rw [if_pos hneg]
    rw [hd, hs, dec_val]
    exact ⟨dec_digits u, dec_ne u, by omega, by rw [← show intVal l = -1 * (u : Int) by omega]; exact hI, hlen⟩
  · obtain ⟨u, hu, e2⟩ := itoa_plus (by omega : 0 ≤ intVal l)
    rw [e] at e2
    have hneg : neg l = false := by
      rw [Bool.eq_false_iff]; intro hc
      rw [e2] at hc
      exact dec_not_minus u (by simpa [neg] using hc)
    have hd : digs l = decDigits u := by unfold digs; rw [hneg, e2]; rfl
    have hs : sgn l = 1 := by unfold sgn; rw [hneg]; rfl
    rw [hd, hs, dec_val]
    exact ⟨dec_digits u, dec_ne u, by omega, by rw [← show intVal l = 1 * (u : Int) by omega]; exact hI, hlen⟩
theorem not_int_len {l : List UInt8} (h : l = [] ∨ 20 < l.length ∨ l = [45]) : isInt l = false := by
  rw [Bool.eq_false_iff]
  intro hc
  obtain ⟨_, h2, _, _, h5⟩ := int_parts hc
  rcases h with rfl | h | rfl
  · exact h2 rfl
  · omega
  · exact h2 rfl
theorem not_int_digit {l : List UInt8} {b : UInt8} (hm : b ∈ digs l) (hb : isDigit b = false) : isInt l = false := by
  rw [Bool.eq_false_iff]
  intro hc
  have := List.all_eq_true.1 (int_parts hc).1 b hm
  rw [hb] at this; cases this
/-- Too great already. -/
theorem not_int_great {l p q : List UInt8} (hd : digs l = p ++ q) (hb : ¬ In63 (sgn l * val p)) : isInt l = false := by
  rw [Bool.eq_false_iff]
  intro hc
  obtain ⟨_, _, _, h4, _⟩ := int_parts hc
  rw [hd] at h4
  have hm := val_mono p q
  apply hb
  unfold In63 at h4 ⊢
  unfold sgn at h4 ⊢
  split at h4 <;> rename_i hn
  · rw [if_pos hn]; omega
  · rw [if_neg hn]; omega
/-- All digits read: what Digits prints decides. -/
theorem int_end {l : List UInt8} {v : Int} (hv : v = sgn l * val (digs l)) (hI : In63 v) : isInt l = decide (itoa v = l) ∧ (isInt l = true → intVal l = v) := by
  refine ⟨?_, fun h => by rw [(int_parts h).2.2.1, hv]⟩
  rw [Bool.eq_iff_iff, decide_eq_true_eq]
  constructor
  · intro h
    obtain ⟨e, _, _⟩ := isInt_val h
    rw [(int_parts h).2.2.1, ← hv] at e
    exact e
  · intro h
    rw [← h]
    exact (int_itoa hI).1
theorem digs_snoc {l p q : List UInt8} {b : UInt8} (hd : digs l = p ++ b :: q) : digs l = (p ++ [b]) ++ q := by rw [hd]; simp
theorem sgn_snoc (l p : List UInt8) (b : UInt8) (hb : isDigit b = true) : sgn l * val (p ++ [b]) = 10 * (sgn l * val p) + sgn l * ((b.toNat : Int) - 48) := by
  rw [val_snoc]
  simp only [isDigit, Bool.and_eq_true, decide_eq_true_eq] at hb
  unfold sgn
  split <;> omega
end Go.Proofs.YtappfojjjegnpaaGreatDoor.LexM
