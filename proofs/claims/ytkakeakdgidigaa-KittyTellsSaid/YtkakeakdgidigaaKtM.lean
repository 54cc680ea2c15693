/-
  Corners of turns, the rotation from one to another, a pair that look at one another: mathematics; no program stands here. Conditions: none.
-/
import Derived.Test.YtkakeakdgidigaaBase
namespace Go.Proofs.Ytkakeakdgidigaa.KtM

/-- A turn as single ones. -/
def sgl (t : Int) : List Int := if t = -2 then [-1, -1] else [t]
def sgs (T : List Int) : List Int := T.flatMap sgl
theorem sgs_nil : sgs [] = [] := rfl
theorem sgs_app (A B : List Int) : sgs (A ++ B) = sgs A ++ sgs B := by unfold sgs; rw [List.flatMap_append]
theorem sgs_one (t : Int) : sgs [t] = sgl t := by simp [sgs]
theorem sgs_cons (t : Int) (T : List Int) : sgs (t :: T) = sgl t ++ sgs T := by simp [sgs]
def sumI : List Int → Int
  | [] => 0
  | a :: l => a + sumI l
theorem sum_app : ∀ (A B : List Int), sumI (A ++ B) = sumI A + sumI B
  | [], B => by simp [sumI]
  | a :: A, B => by rw [List.cons_append, sumI, sumI, sum_app A B]; omega
theorem sum_sgl (t : Int) : sumI (sgl t) = t := by
  unfold sgl
  split
  · simp [sumI]; omega
  · simp [sumI]
theorem sum_sgs : ∀ T : List Int, sumI (sgs T) = sumI T
  | [] => rfl
  | t :: T => by rw [sgs_cons, sum_app, sum_sgl, sum_sgs T, sumI]
/-- How much is turned ahead of a place. -/
def preI (S : List Int) (k : Nat) : Int := sumI (S.take k)
theorem pre_zero (S : List Int) : preI S 0 = 0 := by simp [preI, sumI]
theorem pre_all (S : List Int) {k : Nat} (h : S.length ≤ k) : preI S k = sumI S := by unfold preI; rw [List.take_of_length_le h]
theorem pre_step {S : List Int} {k : Nat} (h : k < S.length) : preI S (k + 1) = preI S k + S.getD k 0 := by
  unfold preI
  rw [List.take_succ_eq_append_getElem h, sum_app, List.getD_eq_getElem?_getD, List.getElem?_eq_getElem h]
  simp [sumI]
theorem pre_left {A B : List Int} {k : Nat} (h : k ≤ A.length) : preI (A ++ B) k = preI A k := by unfold preI; rw [List.take_append_of_le_length h]
theorem pre_right {A B : List Int} {k : Nat} (h : A.length ≤ k) : preI (A ++ B) k = sumI A + preI B (k - A.length) := by
  unfold preI
  rw [List.take_append, List.take_of_length_le h, sum_app]
/-- The rotation from one place to another, going round. -/
def rotP (S : List Int) (p q : Nat) : Int := if p ≤ q then preI S q - preI S p else sumI S - preI S p + preI S q
theorem rot_self (S : List Int) (p : Nat) : rotP S p p = 0 := by unfold rotP; rw [if_pos (Nat.le_refl _)]; omega
theorem rot_back (S : List Int) {p q : Nat} (h : p ≠ q) : rotP S p q + rotP S q p = sumI S := by
  unfold rotP
  by_cases c : p ≤ q
  · rw [if_pos c, if_neg (by omega)]; omega
  · rw [if_neg c, if_pos (by omega)]; omega
theorem rot_via (S : List Int) {p q r : Nat} (h1 : p ≤ q) (h2 : q ≤ r) : rotP S p q + rotP S q r = rotP S p r := by
  unfold rotP
  rw [if_pos h1, if_pos h2, if_pos (by omega)]
  omega
/-- A place where a corner stands. -/
def isC (S : List Int) (p : Nat) : Prop := p < S.length ∧ S.getD p 0 = -1
/-- Do two corners look at one another? -/
def PairE (S : List Int) : Prop := ∃ p q, isC S p ∧ isC S q ∧ rotP S p q = 2
/-! Begun at another place. -/
theorem getD_left {A B : List Int} {k : Nat} (h : k < A.length) : (A ++ B).getD k 0 = A.getD k 0 := by
  rw [List.getD_eq_getElem?_getD, List.getElem?_append_left h, ← List.getD_eq_getElem?_getD]
theorem getD_right {A B : List Int} {k : Nat} (h : A.length ≤ k) : (A ++ B).getD k 0 = B.getD (k - A.length) 0 := by
  rw [List.getD_eq_getElem?_getD, List.getElem?_append_right h, ← List.getD_eq_getElem?_getD]
def mvK (A B : List Int) (p : Nat) : Nat := if p < A.length then B.length + p else p - A.length
theorem mv_corner {A B : List Int} {p : Nat} (h : isC (A ++ B) p) : isC (B ++ A) (mvK A B p) := by
  obtain ⟨h1, h2⟩ := h
  rw [List.length_append] at h1
  unfold mvK
  by_cases c : p < A.length
  · rw [if_pos c]
    rw [getD_left c] at h2
    exact ⟨by rw [List.length_append]; omega, by rw [getD_right (by omega), Nat.add_sub_cancel_left]; exact h2⟩
  · rw [if_neg c]
    rw [getD_right (by omega)] at h2
    exact ⟨by rw [List.length_append]; omega, by rw [getD_left (by omega)]; exact h2⟩
theorem mv_rot {A B : List Int} {p q : Nat} (hp : p < (A ++ B).length) (hq : q < (A ++ B).length) : rotP (B ++ A) (mvK A B p) (mvK A B q) = rotP (A ++ B) p q := by
  rw [List.length_append] at hp hq
  unfold mvK
  have hs : sumI (B ++ A) = sumI B + sumI A := sum_app B A
  have hs2 : sumI (A ++ B) = sumI A + sumI B := sum_app A B
  by_cases c : p < A.length <;> by_cases d : q < A.length
  · rw [if_pos c, if_pos d]
    unfold rotP
    have e1 : preI (B ++ A) (B.length + p) = sumI B + preI A p := by rw [pre_right (by omega), Nat.add_sub_cancel_left]
    have e2 : preI (B ++ A) (B.length + q) = sumI B + preI A q := by rw [pre_right (by omega), Nat.add_sub_cancel_left]
    rw [e1, e2, hs, hs2, pre_left (by omega : p ≤ A.length), pre_left (by omega : q ≤ A.length)]
    by_cases e : p ≤ q
    · rw [if_pos (by omega), if_pos e]; omega
    · rw [if_neg (by omega), if_neg e]; omega
  · rw [if_pos c, if_neg d]
    unfold rotP
    have e1 : preI (B ++ A) (B.length + p) = sumI B + preI A p := by rw [pre_right (by omega), Nat.add_sub_cancel_left]
    have e2 : preI (B ++ A) (q - A.length) = preI B (q - A.length) := pre_left (by omega)
    rw [e1, e2, hs, pre_left (by omega : p ≤ A.length), pre_right (by omega : A.length ≤ q), if_neg (by omega), if_pos (by omega)]
    omega
  · rw [if_neg c, if_pos d]
    unfold rotP
    have e1 : preI (B ++ A) (B.length + q) = sumI B + preI A q := by rw [pre_right (by omega), Nat.add_sub_cancel_left]
    have e2 : preI (B ++ A) (p - A.length) = preI B (p - A.length) := pre_left (by omega)
    rw [e1, e2, hs2, pre_left (by omega : q ≤ A.length), pre_right (by omega : A.length ≤ p), if_pos (by omega), if_neg (by omega)]
    omega
  · rw [if_neg c, if_neg d]
    unfold rotP
    have e1 : preI (B ++ A) (q - A.length) = preI B (q - A.length) := pre_left (by omega)
    have e2 : preI (B ++ A) (p - A.length) = preI B (p - A.length) := pre_left (by omega)
    rw [e1, e2, hs, hs2, pre_right (by omega : A.length ≤ p), pre_right (by omega : A.length ≤ q)]
    by_cases e : p ≤ q
    · rw [if_pos (by omega), if_pos e]; omega
    · rw [if_neg (by omega), if_neg e]; omega
theorem pair_mv {A B : List Int} (h : PairE (A ++ B)) : PairE (B ++ A) := by
  obtain ⟨p, q, h1, h2, h3⟩ := h
  exact ⟨_, _, mv_corner h1, mv_corner h2, (mv_rot h1.1 h2.1).trans h3⟩
theorem pair_round (T : List Int) (k : Nat) : PairE (sgs (T.drop k ++ T.take k)) ↔ PairE (sgs T) := by
  have e : sgs T = sgs (T.take k) ++ sgs (T.drop k) := by rw [← sgs_app, List.take_append_drop]
  rw [e, sgs_app]
  exact ⟨pair_mv, pair_mv⟩
/-! Turns of 0 set in between. -/
def inK (A : List Int) (z p : Nat) : Nat := if p < A.length then p else p + z
theorem sum_zeros : ∀ z, sumI (List.replicate z 0) = 0
  | 0 => rfl
  | z + 1 => by rw [List.replicate_succ, sumI, sum_zeros z]; rfl
theorem pre_in {A B : List Int} {z p : Nat} : preI (A ++ (List.replicate z 0 ++ B)) (inK A z p) = preI (A ++ B) p := by
  unfold inK
  by_cases c : p < A.length
  · rw [if_pos c, pre_left (by omega), pre_left (by omega)]
  · rw [if_neg c, pre_right (by omega), pre_right (by omega : A.length ≤ p), pre_right (by rw [List.length_replicate]; omega), sum_zeros, List.length_replicate, show p + z - A.length - z = p - A.length by omega]
    omega
theorem sum_in {A B : List Int} {z : Nat} : sumI (A ++ (List.replicate z 0 ++ B)) = sumI (A ++ B) := by
  rw [sum_app, sum_app, sum_app, sum_zeros]
  omega
theorem in_le {A : List Int} {z p q : Nat} : inK A z p ≤ inK A z q ↔ p ≤ q := by
  unfold inK
  by_cases c : p < A.length <;> by_cases d : q < A.length
  · rw [if_pos c, if_pos d]
  · rw [if_pos c, if_neg d]; omega
  · rw [if_neg c, if_pos d]; omega
  · rw [if_neg c, if_neg d]; omega
theorem in_rot {A B : List Int} {z p q : Nat} : rotP (A ++ (List.replicate z 0 ++ B)) (inK A z p) (inK A z q) = rotP (A ++ B) p q := by
  unfold rotP
  rw [pre_in, pre_in, sum_in]
  by_cases c : p ≤ q
  · rw [if_pos (in_le.2 c), if_pos c]
  · rw [if_neg (fun h => c (in_le.1 h)), if_neg c]
theorem in_corner {A B : List Int} {z p : Nat} : isC (A ++ (List.replicate z 0 ++ B)) (inK A z p) ↔ isC (A ++ B) p := by
  unfold isC inK
  rw [List.length_append, List.length_append, List.length_append, List.length_replicate]
  by_cases c : p < A.length
  · rw [if_pos c, getD_left c, getD_left c]
    constructor
    · rintro ⟨_, h⟩; exact ⟨by omega, h⟩
    · rintro ⟨_, h⟩; exact ⟨by omega, h⟩
  · rw [if_neg c, getD_right (by omega), getD_right (by omega : A.length ≤ p), getD_right (by rw [List.length_replicate]; omega), List.length_replicate, show p + z - A.length - z = p - A.length by omega]
    constructor
    · rintro ⟨_, h⟩; exact ⟨by omega, h⟩
    · rintro ⟨_, h⟩; exact ⟨by omega, h⟩
theorem in_all {A B : List Int} {z r : Nat} (h : isC (A ++ (List.replicate z 0 ++ B)) r) : ∃ p, r = inK A z p := by
  obtain ⟨_, h2⟩ := h
  unfold inK
  by_cases c : r < A.length
  · exact ⟨r, by rw [if_pos c]⟩
  · by_cases d : r < A.length + z
    · exfalso
      rw [getD_right (by omega), getD_left (by rw [List.length_replicate]; omega)] at h2
      rw [List.getD_eq_getElem?_getD, List.getElem?_replicate, if_pos (by omega)] at h2
      exact absurd h2 (by decide)
    · exact ⟨r - z, by rw [if_neg (by omega)]; omega⟩
theorem pair_in {A B : List Int} {z : Nat} : PairE (A ++ (List.replicate z 0 ++ B)) ↔ PairE (A ++ B) := by
  constructor
  · rintro ⟨r, s, h1, h2, h3⟩
    obtain ⟨p, rfl⟩ := in_all h1
    obtain ⟨q, rfl⟩ := in_all h2
    exact ⟨p, q, in_corner.1 h1, in_corner.1 h2, in_rot.symm.trans h3⟩
  · rintro ⟨p, q, h1, h2, h3⟩
    exact ⟨_, _, in_corner.2 h1, in_corner.2 h2, in_rot.trans h3⟩
theorem sgs_zeros : ∀ z, sgs (List.replicate z 0) = List.replicate z 0
  | 0 => rfl
  | z + 1 => by rw [List.replicate_succ, sgs_cons, sgs_zeros z]; rfl
theorem pair_flat (T : List Int) (i z : Nat) : PairE (sgs (T.take i ++ List.replicate z 0 ++ T.drop i)) ↔ PairE (sgs T) := by
  have e : sgs T = sgs (T.take i) ++ sgs (T.drop i) := by rw [← sgs_app, List.take_append_drop]
  rw [e, sgs_app, sgs_app, sgs_zeros, List.append_assoc]
  exact pair_in
end Go.Proofs.Ytkakeakdgidigaa.KtM
