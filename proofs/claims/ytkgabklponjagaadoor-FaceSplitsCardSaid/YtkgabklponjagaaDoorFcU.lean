/-
  Rows that lead round, and the least way of writing them: mathematics; no program stands here. Conditions: none.
-/
import Derived.Test.YtkgabklponjagaaDoorFcP
namespace Go.Proofs.YtkgabklponjagaaDoor.FcM
open Go.Proofs.YtkgabklponjagaaDoor.GrM

/-! A row whose elements follow one another, the last one followed by z. -/
def Lnk (b : Nat → Nat) : List Nat → Nat → Prop
  | [], _ => True
  | a :: l, z => b a = l.headD z ∧ Lnk b l z
theorem lnk_iff {b : Nat → Nat} : ∀ {l : List Nat} {z : Nat}, Lnk b l z ↔ ∀ i, i < l.length → b (l.getD i 0) = if i + 1 < l.length then l.getD (i + 1) 0 else z
  | [], z => by simp [Lnk]
  | a :: l, z => by
    rw [Lnk, lnk_iff (l := l)]
    constructor
    · rintro ⟨h1, h2⟩ i hi
      cases i with
      | zero =>
        cases l with
        | nil => simpa using h1
        | cons c l => simpa using h1
      | succ i =>
        have := h2 i (by simpa using hi)
        simpa using this
    · intro h
      refine ⟨?_, fun i hi => ?_⟩
      · have := h 0 (by simp)
        cases l with
        | nil => simpa using this
        | cons c l => simpa using this
      · have := h (i + 1) (by simpa using hi)
        simpa using this
theorem cyc_lnk {b : Nat → Nat} {l : List Nat} : Cyc b l ↔ l ≠ [] ∧ Lnk b l (l.headD 0) := by
  unfold Cyc
  refine and_congr_right fun hne => ?_
  rw [lnk_iff]
  have hl : 0 < l.length := List.length_pos_iff.2 hne
  have h0 : l.getD 0 0 = l.headD 0 := by cases l <;> rfl
  constructor
  · intro h i hi
    rw [h i hi]
    by_cases hlt : i + 1 < l.length
    · rw [if_pos hlt, Nat.mod_eq_of_lt hlt]
    · rw [if_neg hlt, show i + 1 = l.length by omega, Nat.mod_self, h0]
  · intro h i hi
    rw [h i hi]
    by_cases hlt : i + 1 < l.length
    · rw [if_pos hlt, Nat.mod_eq_of_lt hlt]
    · rw [if_neg hlt, show i + 1 = l.length by omega, Nat.mod_self, h0]
theorem lnk_append {b : Nat → Nat} : ∀ {l m : List Nat} {z : Nat}, Lnk b l (m.headD z) → Lnk b m z → Lnk b (l ++ m) z
  | [], _, _, _, h => h
  | a :: l, m, z, h1, h2 => by
    refine ⟨?_, lnk_append h1.2 h2⟩
    rw [h1.1]
    cases l <;> rfl
/-- Each element in place of others: what follows still does. -/
theorem lnk_flat {b b' h : Nat → Nat} {s : Nat → List Nat} : ∀ {l : List Nat} {z : Nat}, (∀ a ∈ l, (s a).headD 0 = h a ∧ s a ≠ [] ∧ Lnk b' (s a) (h (b a))) → Lnk b l z → Lnk b' (l.flatMap s) (h z)
  | [], _, _, _ => trivial
  | a :: l, z, hs, hl => by
    obtain ⟨h1, h2, h3⟩ := hs a (by simp)
    rw [List.flatMap_cons]
    refine lnk_append ?_ (lnk_flat (fun c hc => hs c (by simp [hc])) hl.2)
    have e : (l.flatMap s).headD (h z) = h (l.headD z) := by
      cases l with
      | nil => rfl
      | cons c l =>
        obtain ⟨g1, g2, _⟩ := hs c (by simp)
        rw [List.flatMap_cons]
        cases hc : s c with
        | nil => exact absurd hc g2
        | cons x r =>
          rw [hc] at g1
          exact g1
    rw [e, ← hl.1]
    exact h3
theorem cyc_flat {b b' h : Nat → Nat} {s : Nat → List Nat} {l : List Nat} (hs : ∀ a ∈ l, (s a).headD 0 = h a ∧ s a ≠ [] ∧ Lnk b' (s a) (h (b a))) (hl : Cyc b l) : Cyc b' (l.flatMap s) := by
  obtain ⟨hne, hl⟩ := cyc_lnk.1 hl
  cases l with
  | nil => exact absurd rfl hne
  | cons a l =>
    obtain ⟨h1, h2, _⟩ := hs a (by simp)
    have hL := lnk_flat hs hl
    have e : ((a :: l).flatMap s).headD 0 = h a := by
      rw [List.flatMap_cons]
      cases hc : s a with
      | nil => exact absurd hc h2
      | cons x r => rw [hc] at h1; exact h1
    refine cyc_lnk.2 ⟨?_, ?_⟩
    · rw [List.flatMap_cons]
      cases hc : s a with
      | nil => exact absurd hc h2
      | cons x r => simp
    · rw [e]; exact hL

/-! Written from another place on. -/
def rot {α : Type} (l : List α) (i : Nat) : List α := l.drop i ++ l.take i
theorem iter_cyc {b : Nat → Nat} {l : List Nat} (h : Cyc b l) {i : Nat} (hi : i < l.length) : ∀ m, Nat.repeat b m (l.getD i 0) = l.getD ((i + m) % l.length) 0
  | 0 => by rw [Nat.repeat, Nat.add_zero, Nat.mod_eq_of_lt hi]
  | m + 1 => by
    have hl : 0 < l.length := by omega
    rw [Nat.repeat, iter_cyc h hi m, h.2 _ (Nat.mod_lt _ hl), Nat.mod_add_mod, Nat.add_assoc]
theorem rot_at {α : Type} [Inhabited α] {l : List α} {s m : Nat} (hs : s < l.length) (hm : m < l.length) (d : α) : (rot l s).getD m d = l.getD ((s + m) % l.length) d := by
  unfold rot
  rw [List.getD_eq_getElem?_getD, List.getD_eq_getElem?_getD]
  congr 1
  by_cases h : s + m < l.length
  · rw [List.getElem?_append_left (by rw [List.length_drop]; omega), List.getElem?_drop, Nat.mod_eq_of_lt h]
  · rw [List.getElem?_append_right (by rw [List.length_drop]; omega), List.length_drop, List.getElem?_take, if_pos (by omega)]
    rw [show (s + m) % l.length = m - (l.length - s) by
      rw [show s + m = (m - (l.length - s)) + l.length by omega, Nat.add_mod_right, Nat.mod_eq_of_lt (by omega)]]
theorem rot_len {α : Type} (l : List α) (i : Nat) : (rot l i).length = l.length := by unfold rot; rw [List.length_append, List.length_drop, List.length_take]; omega
theorem rot_perm {α : Type} (l : List α) (i : Nat) : (rot l i).Perm l := by
  unfold rot
  refine List.perm_append_comm.trans ?_
  rw [List.take_append_drop]
theorem list_ext_getD {l m : List Nat} (hl : l.length = m.length) (h : ∀ i, i < l.length → l.getD i 0 = m.getD i 0) : l = m := by
  apply List.ext_getElem hl
  intro i h1 h2
  have := h i h1
  rw [List.getD_eq_getElem?_getD, List.getD_eq_getElem?_getD, List.getElem?_eq_getElem h1, List.getElem?_eq_getElem h2] at this
  simpa using this
/-- Of two that lead round by the same, with an element in common, one is the other from another place on. -/
theorem cyc_rot {b : Nat → Nat} {l m : List Nat} (hl : Cyc b l) (hm : Cyc b m) (nl : l.Nodup) (nm : m.Nodup) {x : Nat} (h1 : x ∈ l) (h2 : x ∈ m) : ∃ s, s < l.length ∧ m = rot l s := by
  obtain ⟨i, hi, e1⟩ := List.mem_iff_getElem.1 h1
  obtain ⟨j, hj, e2⟩ := List.mem_iff_getElem.1 h2
  have g1 : l.getD i 0 = x := by rw [List.getD_eq_getElem?_getD, List.getElem?_eq_getElem hi]; exact e1
  have g2 : m.getD j 0 = x := by rw [List.getD_eq_getElem?_getD, List.getElem?_eq_getElem hj]; exact e2
  have key : ∀ q, l.getD ((i + q) % l.length) 0 = m.getD ((j + q) % m.length) 0 := fun q => by
    rw [← iter_cyc hl hi q, ← iter_cyc hm hj q, g1, g2]
  have hl0 : 0 < l.length := by omega
  have hm0 : 0 < m.length := by omega
  have len : l.length = m.length := by
    rcases Nat.lt_trichotomy l.length m.length with h | h | h
    · have := key l.length
      rw [Nat.add_mod_right, Nat.mod_eq_of_lt hi, g1, ← g2] at this
      have := getD_inj nm hj (Nat.mod_lt _ hm0) this
      exfalso
      by_cases h9 : j + l.length < m.length
      · rw [Nat.mod_eq_of_lt h9] at this; omega
      · rw [show j + l.length = (j + l.length - m.length) + m.length by omega, Nat.add_mod_right, Nat.mod_eq_of_lt (by omega)] at this
        omega
    · exact h
    · have := key m.length
      rw [Nat.add_mod_right, Nat.mod_eq_of_lt hj, g2, ← g1] at this
      have := getD_inj nl hi (Nat.mod_lt _ hl0) this.symm
      exfalso
      by_cases h9 : i + m.length < l.length
      · rw [Nat.mod_eq_of_lt h9] at this; omega
      · rw [show i + m.length = (i + m.length - l.length) + l.length by omega, Nat.add_mod_right, Nat.mod_eq_of_lt (by omega)] at this
        omega
  refine ⟨(i + (l.length - j)) % l.length, Nat.mod_lt _ hl0, list_ext_getD (by rw [rot_len, len]) fun q hq => ?_⟩
  have hql : q < l.length := by omega
  rw [rot_at (Nat.mod_lt _ hl0) hql, Nat.mod_add_mod]
  have := key (l.length - j + q)
  rw [show j + (l.length - j + q) = q + m.length by omega, Nat.add_mod_right, Nat.mod_eq_of_lt hq, show i + (l.length - j + q) = i + (l.length - j) + q by omega] at this
  exact this.symm
/-- Whatever doesn't hang on where one begins is the same of two such lists of the same elements, but for the order. -/
theorem cycs_perm {β : Type} {b : Nat → Nat} {c : List Nat → β} (hc : ∀ l s, s < l.length → c (rot l s) = c l) : ∀ {A B : List (List Nat)}, (∀ l ∈ A, Cyc b l) → (∀ l ∈ B, Cyc b l) → A.flatten.Nodup → B.flatten.Nodup → (∀ k, k ∈ A.flatten ↔ k ∈ B.flatten) → (A.map c).Perm (B.map c)
  | [], B, _, hB, _, _, he => by
    cases B with
    | nil => exact List.Perm.refl _
    | cons l B =>
      have hne := (hB l (by simp)).1
      cases l with
      | nil => exact absurd rfl hne
      | cons x l =>
        have := (he x).2 (by simp)
        simp at this
  | a :: A, B, hA, hB, nA, nB, he => by
    have ha := hA a (by simp)
    obtain ⟨x, hx⟩ : ∃ x, x ∈ a := by
      cases a with
      | nil => exact absurd rfl ha.1
      | cons x l => exact ⟨x, by simp⟩
    obtain ⟨m, hm, hxm⟩ := List.mem_flatten.1 ((he x).1 (by simp [hx]))
    have pB := List.perm_cons_erase hm
    rw [List.flatten_cons, List.nodup_append] at nA
    have nB' : (m :: B.erase m).flatten.Nodup := (pB.flatten.nodup_iff).1 nB
    rw [List.flatten_cons, List.nodup_append] at nB'
    obtain ⟨s, hs, rfl⟩ := cyc_rot ha (hB m hm) nA.1 nB'.1 hx hxm
    have ih := cycs_perm hc (A := A) (B := B.erase (rot a s)) (fun l hl => hA l (by simp [hl])) (fun l hl => hB l (List.mem_of_mem_erase hl)) nA.2.1 nB'.2.1 (fun k => by
      have e1 := he k
      have e2 : k ∈ B.flatten ↔ k ∈ (rot a s :: B.erase (rot a s)).flatten := pB.flatten.mem_iff
      have e3 : k ∈ rot a s ↔ k ∈ a := (rot_perm a s).mem_iff
      rw [e2, List.flatten_cons, List.mem_append, List.flatten_cons, List.mem_append, e3] at e1
      constructor
      · intro h
        rcases e1.1 (Or.inr h) with h' | h'
        · exact absurd rfl (nA.2.2 k h' k h)
        · exact h'
      · intro h
        rcases e1.2 (Or.inr h) with h' | h'
        · exact absurd rfl (nB'.2.2 k (e3.2 h') k h)
        · exact h')
    refine List.Perm.trans ?_ (pB.map c).symm
    rw [List.map_cons, List.map_cons, hc a s hs]
    exact ih.cons _
end Go.Proofs.YtkgabklponjagaaDoor.FcM
