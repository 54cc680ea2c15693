/-
  Corners by what is turned ahead of them; the first pair, found by tables of first and last places: mathematics; no program stands here. Conditions: none.
-/
import Derived.Test.YtkakeakdgidigaaKtN
namespace Go.Proofs.Ytkakeakdgidigaa.KtM

/-- How many corners a turn has. -/
def prtN (t : Int) : Nat := if t = -1 then 1 else if t = -2 then 2 else 0
theorem prt_crn (t : Int) (p : Nat) : (p < (sgl t).length ∧ (sgl t).getD p 0 = -1) ↔ p < prtN t := by
  unfold sgl prtN
  by_cases h2 : t = -2
  · subst h2
    simp only [if_true, show ¬ ((-2 : Int) = -1) by decide, if_false, List.length_cons, List.length_nil]
    constructor
    · exact fun h => h.1
    · intro h
      refine ⟨h, ?_⟩
      have : p = 0 ∨ p = 1 := by omega
      rcases this with rfl | rfl <;> rfl
  · rw [if_neg h2, if_neg h2]
    by_cases h1 : t = -1
    · subst h1
      simp only [if_true, List.length_cons, List.length_nil]
      constructor
      · exact fun h => h.1
      · intro h
        refine ⟨h, ?_⟩
        have : p = 0 := by omega
        subst this; rfl
    · rw [if_neg h1]
      constructor
      · rintro ⟨h, g⟩
        simp only [List.length_cons, List.length_nil] at h
        have : p = 0 := by omega
        subst this
        exact absurd g h1
      · intro h; omega
theorem mem_prt {T : List Int} {c : Nat × Nat} : c ∈ crns T ↔ c.1 < T.length ∧ c.2 < prtN (T.getD c.1 0) := by
  rw [mem_crns, prt_crn]
theorem crn1_prt (i : Nat) (t : Int) : crn1 i t = (List.range (prtN t)).map fun p => (i, p) := by
  unfold crn1 prtN
  by_cases h1 : t = -1
  · rw [if_pos h1, if_pos h1]; rfl
  · rw [if_neg h1, if_neg h1]
    by_cases h2 : t = -2
    · rw [if_pos h2, if_pos h2]; rfl
    · rw [if_neg h2, if_neg h2]; rfl
theorem drop_one {T : List Int} {i : Nat} (h : i < T.length) : T.drop i = T.getD i 0 :: T.drop (i + 1) := by
  rw [List.drop_eq_getElem_cons h, List.getD_eq_getElem?_getD, List.getElem?_eq_getElem h]; rfl
/-- What is turned ahead of a corner. -/
def ahdC (T : List Int) (c : Nat × Nat) : Int := sumI (T.take c.1) - c.2
theorem ahd_pre {T : List Int} {c : Nat × Nat} (h : c ∈ crns T) : preI (sgs T) (posC T c) = ahdC T c := by
  obtain ⟨h1, h2, h3⟩ := mem_crns.1 h
  have e : sgs T = sgs (T.take c.1) ++ sgs (T.drop c.1) := by rw [← sgs_app, List.take_append_drop]
  unfold posC ahdC posO
  rw [e, pre_right (by omega), Nat.add_sub_cancel_left, sum_sgs, drop_one h1, sgs_cons, pre_left (by omega)]
  have key : preI (sgl (T.getD c.1 0)) c.2 = -(c.2 : Int) := by
    have h4 := (prt_crn _ _).1 ⟨h2, h3⟩
    revert h2 h3 h4
    generalize T.getD c.1 0 = t
    generalize c.2 = p
    intro h2 h3 h4
    unfold prtN at h4
    by_cases g2 : t = -2
    · subst g2
      have : p = 0 ∨ p = 1 := by simp at h4; omega
      rcases this with rfl | rfl <;> rfl
    · have : p = 0 := by
        rw [if_neg g2] at h4
        split at h4 <;> omega
      subst this
      rw [pre_zero]; rfl
  rw [key]
  omega
theorem pos_lt {T : List Int} {a b : Nat × Nat} (ha : a ∈ crns T) (hb : b ∈ crns T) : posC T a < posC T b ↔ (a.1 < b.1 ∨ a.1 = b.1 ∧ a.2 < b.2) := by
  have one : ∀ {a b : Nat × Nat}, a ∈ crns T → b ∈ crns T → a.1 < b.1 → posC T a < posC T b := by
    intro a b ha hb h
    obtain ⟨h1, h2, _⟩ := mem_crns.1 ha
    obtain ⟨g1, _, _⟩ := mem_crns.1 hb
    have e := posO_step h1
    have m := posO_mono (T := T) (i := a.1 + 1) (b.1 - (a.1 + 1)) (by omega)
    rw [show a.1 + 1 + (b.1 - (a.1 + 1)) = b.1 by omega] at m
    unfold posC
    omega
  constructor
  · intro h
    rcases Nat.lt_trichotomy a.1 b.1 with c | c | c
    · exact Or.inl c
    · refine Or.inr ⟨c, ?_⟩
      unfold posC at h
      rw [c] at h
      omega
    · exact absurd (one hb ha c) (by omega)
  · rintro (h | ⟨h1, h2⟩)
    · exact one ha hb h
    · unfold posC
      rw [h1]
      omega
theorem rot_code {T : List Int} {a b : Nat × Nat} (ha : a ∈ crns T) (hb : b ∈ crns T) :
    rotC T a b = if b.1 < a.1 ∨ b.1 = a.1 ∧ b.2 < a.2 then ahdC T b - ahdC T a + sumI T else ahdC T b - ahdC T a := by
  unfold rotC rotP
  rw [ahd_pre ha, ahd_pre hb, sum_sgs]
  by_cases c : b.1 < a.1 ∨ b.1 = a.1 ∧ b.2 < a.2
  · rw [if_pos c, if_neg (by have := (pos_lt hb ha).2 c; omega)]
    omega
  · rw [if_neg c, if_pos (by
      have := mt (pos_lt hb ha).1 c
      omega)]
/-- All that is turned ahead of the corners, in their order. -/
def ahdL (T : List Int) : List Int := (crns T).map (ahdC T)
theorem ahd_len (T : List Int) : (ahdL T).length = (crns T).length := by simp [ahdL]
theorem ahd_get {T : List Int} {i : Nat} (h : i < (crns T).length) : (ahdL T).getD i 0 = preI (sgs T) (cpos T i) := by
  have e := ahd_pre (crnA_mem h)
  unfold cpos
  rw [e]
  unfold ahdL crnA
  rw [List.getD_eq_getElem?_getD, List.getElem?_map, List.getD_eq_getElem?_getD, List.getElem?_eq_getElem h]
  rfl
/-! The search. -/
def lookZ (L : List Int) (tot : Int) (i k : Nat) : Int := if i ≤ k then L.getD k 0 - L.getD i 0 else tot - L.getD i 0 + L.getD k 0
theorem look_rot {T : List Int} {i k : Nat} (hi : i < (crns T).length) (hk : k < (crns T).length) : lookZ (ahdL T) (sumI T) i k = rotA T i k := by
  unfold lookZ rotA rotP
  rw [ahd_get hi, ahd_get hk, sum_sgs]
  by_cases c : i ≤ k
  · rw [if_pos c]
    by_cases d : cpos T i ≤ cpos T k
    · rw [if_pos d]
    · exact absurd (cpos_le c hk) d
  · rw [if_neg c, if_neg (by have := cpos_lt (T := T) (i := k) (j := i) (by omega) hi; omega)]
structure FstZ (L : List Int) (tot : Int) (i k : Nat) : Prop where
  li : i < L.length
  lk : k < L.length
  is : lookZ L tot i k = 2
  row : ∀ j, j < i → ∀ r, r < L.length → lookZ L tot j r ≠ 2
  col : ∀ r, r < k → lookZ L tot i r ≠ 2
def NoZ (L : List Int) (tot : Int) (i : Nat) : Prop := ∀ j, j < i → ∀ r, r < L.length → lookZ L tot j r ≠ 2
theorem FstZ.fst {T : List Int} {i k : Nat} (h : FstZ (ahdL T) (sumI T) i k) : FstP T i k := by
  have l1 := h.li
  have l2 := h.lk
  rw [ahd_len] at l1 l2
  refine ⟨l1, l2, (look_rot l1 l2).symm.trans h.is, fun j hj r hr => ?_, fun r hr => ?_⟩
  · rw [← look_rot (by omega) hr]
    exact h.row j hj r (by rw [ahd_len]; exact hr)
  · rw [← look_rot l1 (by omega)]
    exact h.col r hr
theorem NoZ.no {T : List Int} (h : NoZ (ahdL T) (sumI T) (ahdL T).length) : NoP T (crns T).length := fun j hj r hr => by
  rw [← look_rot hj hr]
  exact h j (by rw [ahd_len]; exact hj) r (by rw [ahd_len]; exact hr)
/-- A table of first places; of last ones. -/
structure FirM (L : List Int) (f : Int → Option Nat) (k : Nat) : Prop where
  some : ∀ v i, f v = some i → i < k ∧ L.getD i 0 = v ∧ ∀ j, j < i → L.getD j 0 ≠ v
  none : ∀ v, f v = none → ∀ j, j < k → L.getD j 0 ≠ v
structure LasM (L : List Int) (f : Int → Option Nat) (k : Nat) : Prop where
  some : ∀ v i, f v = some i → i < k ∧ L.getD i 0 = v ∧ ∀ j, i < j → j < k → L.getD j 0 ≠ v
  none : ∀ v, f v = none → ∀ j, j < k → L.getD j 0 ≠ v
def setM (f : Int → Option Nat) (v : Int) (i : Nat) : Int → Option Nat := fun u => if u = v then some i else f u
theorem FirM.zero (L : List Int) : FirM L (fun _ => Option.none) 0 := ⟨fun _ _ h => (by cases h), fun _ _ j hj => absurd hj (by omega)⟩
theorem LasM.zero (L : List Int) : LasM L (fun _ => Option.none) 0 := ⟨fun _ _ h => (by cases h), fun _ _ j hj => absurd hj (by omega)⟩
theorem FirM.old {L : List Int} {f : Int → Option Nat} {k i : Nat} (h : FirM L f k) (hf : f (L.getD k 0) = Option.some i) : FirM L f (k + 1) := by
  refine ⟨fun v i hv => ?_, fun v hv j hj => ?_⟩
  · obtain ⟨a, b, c⟩ := h.some v i hv
    exact ⟨by omega, b, c⟩
  · by_cases e : j < k
    · exact h.none v hv j e
    · obtain rfl : j = k := by omega
      intro e2
      rw [e2] at hf
      rw [hf] at hv
      cases hv
theorem FirM.new {L : List Int} {f : Int → Option Nat} {k : Nat} (h : FirM L f k) (hf : f (L.getD k 0) = Option.none) : FirM L (setM f (L.getD k 0) k) (k + 1) := by
  refine ⟨fun v i hv => ?_, fun v hv j hj => ?_⟩
  · unfold setM at hv
    by_cases e : v = L.getD k 0
    · rw [if_pos e] at hv
      obtain rfl : k = i := by injection hv
      exact ⟨by omega, e.symm, fun j hj => by rw [e]; exact h.none _ hf j hj⟩
    · rw [if_neg e] at hv
      obtain ⟨a, b, c⟩ := h.some v i hv
      exact ⟨by omega, b, c⟩
  · unfold setM at hv
    by_cases e : v = L.getD k 0
    · rw [if_pos e] at hv; cases hv
    · rw [if_neg e] at hv
      by_cases e2 : j < k
      · exact h.none v hv j e2
      · obtain rfl : j = k := by omega
        exact fun e3 => e e3.symm
theorem LasM.step {L : List Int} {f : Int → Option Nat} {k : Nat} (h : LasM L f k) : LasM L (setM f (L.getD k 0) k) (k + 1) := by
  refine ⟨fun v i hv => ?_, fun v hv j hj => ?_⟩
  · unfold setM at hv
    by_cases e : v = L.getD k 0
    · rw [if_pos e] at hv
      obtain rfl : k = i := by injection hv
      exact ⟨by omega, e.symm, fun j h1 h2 => absurd h1 (by omega)⟩
    · rw [if_neg e] at hv
      obtain ⟨a, b, c⟩ := h.some v i hv
      refine ⟨by omega, b, fun j h1 h2 => ?_⟩
      by_cases e2 : j < k
      · exact c j h1 e2
      · obtain rfl : j = k := by omega
        exact fun e3 => e e3.symm
  · unfold setM at hv
    by_cases e : v = L.getD k 0
    · rw [if_pos e] at hv; cases hv
    · rw [if_neg e] at hv
      by_cases e2 : j < k
      · exact h.none v hv j e2
      · obtain rfl : j = k := by omega
        exact fun e3 => e e3.symm
/-- No corner ahead looks back at one. -/
theorem FirM.behind {L : List Int} {f : Int → Option Nat} {tot : Int} {a : Nat} (h : FirM L f L.length) (ha : a < L.length) (hb : ∀ b, f (L.getD a 0 + 2 - tot) = Option.some b → ¬ b < a) :
    ∀ r, r < a → lookZ L tot a r ≠ 2 := by
  intro r hr
  have hn : L.getD r 0 ≠ L.getD a 0 + 2 - tot := by
    cases e : f (L.getD a 0 + 2 - tot) with
    | none => exact h.none _ e r (by omega)
    | some b => exact (h.some _ b e).2.2 r (by have := hb b e; omega)
  unfold lookZ
  rw [if_neg (by omega)]
  omega
theorem FirM.found {L : List Int} {f : Int → Option Nat} {tot : Int} {a b : Nat} (h : FirM L f L.length) (ha : a < L.length) (no : NoZ L tot a) (hb : f (L.getD a 0 + 2 - tot) = Option.some b) (hl : b < a) : FstZ L tot a b := by
  obtain ⟨h1, h2, h3⟩ := h.some _ _ hb
  refine ⟨ha, h1, ?_, no, fun r hr => ?_⟩
  · unfold lookZ
    rw [if_neg (by omega), h2]
    omega
  · have := h3 r hr
    unfold lookZ
    rw [if_neg (by omega)]
    omega
theorem fst_ahead {L : List Int} {tot : Int} {a j : Nat} (no : NoZ L tot a) (be : ∀ r, r < a → lookZ L tot a r ≠ 2) (hj : a + j < L.length) (hv : L.getD (a + j) 0 = L.getD a 0 + 2) (hf : ∀ r, r < j → L.getD (a + r) 0 ≠ L.getD a 0 + 2) : FstZ L tot a (a + j) := by
  refine ⟨by omega, hj, ?_, no, fun r hr => ?_⟩
  · unfold lookZ
    rw [if_pos (by omega), hv]
    omega
  · by_cases c : r < a
    · exact be r c
    · have := hf (r - a) (by omega)
      rw [show a + (r - a) = r by omega] at this
      unfold lookZ
      rw [if_pos (by omega)]
      omega
theorem LasM.on {L : List Int} {g : Int → Option Nat} {tot : Int} {a : Nat} (h : LasM L g L.length) (no : NoZ L tot a) (be : ∀ r, r < a → lookZ L tot a r ≠ 2) (hb : ∀ b, g (L.getD a 0 + 2) = Option.some b → ¬ a < b) : NoZ L tot (a + 1) := by
  intro j hj r hr
  by_cases c : j < a
  · exact no j c r hr
  · obtain rfl : j = a := by omega
    by_cases d : r < j
    · exact be r d
    · have hn : L.getD r 0 ≠ L.getD j 0 + 2 := by
        cases e : g (L.getD j 0 + 2) with
        | none => exact h.none _ e r hr
        | some b =>
          obtain ⟨g1, g2, g3⟩ := h.some _ b e
          have := hb b e
          by_cases c2 : b < r
          · exact g3 r c2 hr
          · obtain rfl : r = j := by omega
            omega
      unfold lookZ
      rw [if_pos (by omega)]
      omega
end Go.Proofs.Ytkakeakdgidigaa.KtM
