/-
  A stable sort in plain mathematics: segments in order, equal keys in the order of what comes beside them, exchanges, insertions, rotations. Conditions: none.
-/
import Derived.Test.YtlhmlejkfgejiaaHeapM
namespace Go.Proofs.Ytlhmlejkfgejiaa.StabM
open Go.Proofs.Ytlhmlejkfgejiaa.HeapM

abbrev Pr := Int × Int
def g (L : List Pr) (i : Nat) : Pr := L.getD i default
/-- Of equal keys the one with less beside it stands first. -/
def C (L : List Pr) : Prop := ∀ p q, p < q → q < L.length → (g L p).1 = (g L q).1 → (g L p).2 < (g L q).2
def Seg (L : List Pr) (a b : Nat) : Prop := ∀ p q, a ≤ p → p < q → q < b → (g L p).1 ≤ (g L q).1
/-- L' is L with what lies in [a, b) in another order. -/
structure Mv (a b : Nat) (L L' : List Pr) : Prop where
  perm : L'.Perm L
  out : ∀ k, k < a ∨ b ≤ k → g L' k = g L k
  mem : ∀ k, a ≤ k → k < b → ∃ k', a ≤ k' ∧ k' < b ∧ g L' k = g L k'
theorem Mv.len {a b : Nat} {L L' : List Pr} (h : Mv a b L L') : L'.length = L.length := h.perm.length_eq
theorem Mv.refl (a b : Nat) (L : List Pr) : Mv a b L L := ⟨List.Perm.refl _, fun _ _ => rfl, fun k h1 h2 => ⟨k, h1, h2, rfl⟩⟩
theorem Mv.trans {a b : Nat} {L L' L'' : List Pr} (h : Mv a b L L') (h' : Mv a b L' L'') : Mv a b L L'' :=
  ⟨h'.perm.trans h.perm, fun k hk => (h'.out k hk).trans (h.out k hk), fun k h1 h2 => by
    obtain ⟨k', a1, a2, e⟩ := h'.mem k h1 h2
    obtain ⟨k2, c1, c2, e2⟩ := h.mem k' a1 a2
    exact ⟨k2, c1, c2, e.trans e2⟩⟩
theorem Mv.wide {a b a' b' : Nat} {L L' : List Pr} (h : Mv a b L L') (ha : a' ≤ a) (hb : b ≤ b') : Mv a' b' L L' := by
  refine ⟨h.perm, fun k hk => h.out k (by omega), fun k h1 h2 => ?_⟩
  by_cases hk : a ≤ k ∧ k < b
  · obtain ⟨k', x, y, e⟩ := h.mem k hk.1 hk.2
    exact ⟨k', by omega, by omega, e⟩
  · exact ⟨k, h1, h2, h.out k (by omega)⟩
theorem Seg.out {a b c d : Nat} {L L' : List Pr} (h : Seg L c d) (m : Mv a b L L') (hd : d ≤ a ∨ b ≤ c) : Seg L' c d := by
  intro p q h1 h2 h3
  rw [m.out p (by omega), m.out q (by omega)]
  exact h p q h1 h2 h3
theorem Seg.cut {a b c d : Nat} {L : List Pr} (h : Seg L a b) (hc : a ≤ c) (hd : d ≤ b) : Seg L c d := fun p q h1 h2 h3 => h p q (by omega) h2 (by omega)

/-- L with its neighbours i and i + 1 exchanged. -/
structure Adj (i : Nat) (L L' : List Pr) : Prop where
  perm : L'.Perm L
  get : ∀ k, g L' k = if k = i + 1 then g L i else if k = i then g L (i + 1) else g L k
theorem adj_up (L : List Pr) (i : Nat) (h : i + 1 < L.length) : Adj i L (sw L i (i + 1)) := ⟨sw_perm L (by omega) h, fun k => sw_get L (by omega) h k⟩
theorem adj_down (L : List Pr) (i : Nat) (h : i + 1 < L.length) : Adj i L (sw L (i + 1) i) := by
  refine ⟨sw_perm L h (by omega), fun k => ?_⟩
  show (sw L (i + 1) i).getD k default = _
  rw [sw_get L h (by omega) k]
  by_cases h1 : k = i
  · rw [if_pos h1, if_neg (by omega), if_pos h1]; rfl
  · rw [if_neg h1, if_neg h1]; rfl
theorem Adj.mv {i a b : Nat} {L L' : List Pr} (h : Adj i L L') (ha : a ≤ i) (hb : i + 1 < b) : Mv a b L L' := by
  refine ⟨h.perm, fun k hk => ?_, fun k h1 h2 => ?_⟩
  · rw [h.get, if_neg (by omega), if_neg (by omega)]
  · rw [h.get]
    by_cases e1 : k = i + 1
    · exact ⟨i, ha, by omega, by rw [if_pos e1]⟩
    · by_cases e2 : k = i
      · exact ⟨i + 1, by omega, hb, by rw [if_neg e1, if_pos e2]⟩
      · exact ⟨k, h1, h2, by rw [if_neg e1, if_neg e2]⟩
theorem Adj.c {i : Nat} {L L' : List Pr} (h : Adj i L L') (hc : C L) (hi : i + 1 < L.length) (hlt : (g L (i + 1)).1 < (g L i).1) : C L' := by
  intro p q hpq hq
  rw [h.perm.length_eq] at hq
  rw [h.get, h.get]
  by_cases e1 : p = i + 1
  · rw [if_pos e1, if_neg (by omega), if_neg (by omega)]; exact hc i q (by omega) hq
  · rw [if_neg e1]
    by_cases e2 : p = i
    · rw [if_pos e2]
      by_cases e3 : q = i + 1
      · rw [if_pos e3]; intro e; omega
      · rw [if_neg e3, if_neg (by omega)]; exact hc (i + 1) q (by omega) hq
    · rw [if_neg e2]
      by_cases e3 : q = i + 1
      · rw [if_pos e3]; exact hc p i (by omega) (by omega)
      · rw [if_neg e3]
        by_cases e4 : q = i
        · rw [if_pos e4]; exact hc p (i + 1) (by omega) hi
        · rw [if_neg e4]; exact hc p q hpq hq

/-- One at j among others that are in order, less than all behind it. -/
structure Ins (L : List Pr) (a i j : Nat) : Prop where
  rest : ∀ p q, a ≤ p → p < q → q ≤ i → p ≠ j → q ≠ j → (g L p).1 ≤ (g L q).1
  less : ∀ q, j < q → q ≤ i → (g L j).1 < (g L q).1
theorem ins_start {L : List Pr} {a i : Nat} (h : Seg L a i) : Ins L a i i := ⟨fun p q h1 h2 h3 h4 h5 => h p q h1 h2 (by omega), fun q h1 h2 => by omega⟩
theorem ins_step {L L' : List Pr} {a i j : Nat} (h : Ins L a i (j + 1)) (hj : a ≤ j) (hji : j + 1 ≤ i) (m : Adj j L L') (hlt : (g L (j + 1)).1 < (g L j).1) : Ins L' a i j := by
  refine ⟨fun p q h1 h2 h3 h4 h5 => ?_, fun q h1 h2 => ?_⟩
  · rw [m.get, m.get, if_neg h4, if_neg h5]
    by_cases e1 : p = j + 1
    · rw [if_pos e1, if_neg (by omega)]
      have := h.rest j q hj (by omega) h3 (by omega) (by omega)
      exact this
    · rw [if_neg e1]
      by_cases e2 : q = j + 1
      · rw [if_pos e2]; exact h.rest p j h1 (by omega) (by omega) (by omega) (by omega)
      · rw [if_neg e2]; exact h.rest p q h1 h2 h3 (by omega) (by omega)
  · rw [m.get j, m.get q, if_neg (by omega), if_pos rfl]
    by_cases e : q = j + 1
    · rw [if_pos e]; exact hlt
    · rw [if_neg e, if_neg (by omega)]; exact h.less q (by omega) h2
theorem ins_done {L : List Pr} {a i j : Nat} (h : Ins L a i j) (hj : a ≤ j) (hji : j ≤ i) (hd : a < j → ¬ (g L j).1 < (g L (j - 1)).1) : Seg L a (i + 1) := by
  have key : ∀ p, a ≤ p → p < j → (g L p).1 ≤ (g L j).1 := by
    intro p h1 h2
    have h3 := hd (by omega)
    by_cases e : p = j - 1
    · subst e; omega
    · have := h.rest p (j - 1) h1 (by omega) (by omega) (by omega) (by omega)
      omega
  intro p q h1 h2 h3
  by_cases e1 : p = j
  · subst e1; have := h.less q h2 (by omega); omega
  · by_cases e2 : q = j
    · subst e2; exact key p h1 h2
    · exact h.rest p q h1 h2 (by omega) e1 e2

/-- One at k that goes up to i - 1. -/
structure Up (L : List Pr) (a i b k : Nat) : Prop where
  rest : ∀ p q, a ≤ p → p < q → q < b → p ≠ k → q ≠ k → (g L p).1 ≤ (g L q).1
  lo : ∀ p, a ≤ p → p < k → (g L p).1 ≤ (g L k).1
  mid : ∀ q, k < q → q < i → (g L q).1 < (g L k).1
  hi : ∀ q, k < q → i ≤ q → q < b → (g L k).1 ≤ (g L q).1
theorem up_step {L L' : List Pr} {a i b k : Nat} (h : Up L a i b k) (hk : a ≤ k) (hki : k + 1 < i) (hib : i ≤ b) (m : Adj k L L') : Up L' a i b (k + 1) := by
  have gk : g L' (k + 1) = g L k := by rw [m.get, if_pos rfl]
  have gk0 : g L' k = g L (k + 1) := by rw [m.get, if_neg (by omega), if_pos rfl]
  have go : ∀ p, p ≠ k → p ≠ k + 1 → g L' p = g L p := fun p h1 h2 => by rw [m.get, if_neg h2, if_neg h1]
  refine ⟨fun p q h1 h2 h3 h4 h5 => ?_, fun p h1 h2 => ?_, fun q h1 h2 => ?_, fun q h0 h1 h2 => ?_⟩
  · by_cases e1 : p = k
    · subst e1; rw [gk0, go q (by omega) h5]; exact h.rest (p + 1) q (by omega) (by omega) h3 (by omega) (by omega)
    · by_cases e2 : q = k
      · subst e2; rw [gk0, go p e1 h4]; exact h.rest p (q + 1) h1 (by omega) (by omega) e1 (by omega)
      · rw [go p e1 h4, go q e2 h5]; exact h.rest p q h1 h2 h3 e1 e2
  · rw [gk]
    by_cases e1 : p = k
    · subst e1; rw [gk0]; have := h.mid (p + 1) (by omega) hki; omega
    · rw [go p e1 (by omega)]; exact h.lo p h1 (by omega)
  · rw [gk, go q (by omega) (by omega)]; exact h.mid q (by omega) h2
  · rw [gk, go q (by omega) (by omega)]; exact h.hi q (by omega) h1 h2
theorem up_done {L : List Pr} {a i b k : Nat} (h : Up L a i b k) (hk : i ≤ k + 1) : Seg L a b := by
  intro p q h1 h2 h3
  by_cases e1 : p = k
  · subst e1; exact h.hi q h2 (by omega) h3
  · by_cases e2 : q = k
    · subst e2; exact h.lo p h1 h2
    · exact h.rest p q h1 h2 h3 e1 e2
/-- One at k that goes down to i. -/
structure Dn (L : List Pr) (a i b k : Nat) : Prop where
  rest : ∀ p q, a ≤ p → p < q → q < b → p ≠ k → q ≠ k → (g L p).1 ≤ (g L q).1
  up : ∀ q, k < q → q < b → (g L k).1 ≤ (g L q).1
  mid : ∀ p, i ≤ p → p < k → (g L k).1 < (g L p).1
  lo : ∀ p, a ≤ p → p < i → p < k → (g L p).1 ≤ (g L k).1
theorem dn_step {L L' : List Pr} {a i b k : Nat} (h : Dn L a i b (k + 1)) (hi : a ≤ i) (hki : i ≤ k) (hkb : k + 1 < b) (m : Adj k L L') : Dn L' a i b k := by
  have gk : g L' (k + 1) = g L k := by rw [m.get, if_pos rfl]
  have gk0 : g L' k = g L (k + 1) := by rw [m.get, if_neg (by omega), if_pos rfl]
  have go : ∀ p, p ≠ k → p ≠ k + 1 → g L' p = g L p := fun p h1 h2 => by rw [m.get, if_neg h2, if_neg h1]
  refine ⟨fun p q h1 h2 h3 h4 h5 => ?_, fun q h1 h2 => ?_, fun p h1 h2 => ?_, fun p h0 h1 h2 => ?_⟩
  · by_cases e1 : p = k + 1
    · subst e1; rw [gk, go q h5 (by omega)]; exact h.rest k q (by omega) (by omega) h3 (by omega) (by omega)
    · by_cases e2 : q = k + 1
      · subst e2; rw [gk, go p h4 e1]; exact h.rest p k h1 (by omega) (by omega) e1 (by omega)
      · rw [go p h4 e1, go q h5 e2]; exact h.rest p q h1 h2 h3 e1 e2
  · rw [gk0]
    by_cases e1 : q = k + 1
    · subst e1; rw [gk]; have := h.mid k hki (by omega); omega
    · rw [go q (by omega) e1]; exact h.up q (by omega) h2
  · rw [gk0, go p (by omega) (by omega)]; exact h.mid p h1 (by omega)
  · rw [gk0, go p (by omega) (by omega)]; exact h.lo p h0 h1 (by omega)
theorem dn_done {L : List Pr} {a i b k : Nat} (h : Dn L a i b k) (hk : k ≤ i) : Seg L a b := by
  intro p q h1 h2 h3
  by_cases e1 : p = k
  · subst e1; exact h.up q h2 h3
  · by_cases e2 : q = k
    · subst e2; exact h.lo p h1 (by omega) h2
    · exact h.rest p q h1 h2 h3 e1 e2

/-- L with [a, m) and [m, b) in each other's place. -/
structure Rot (a m b : Nat) (L L' : List Pr) : Prop where
  perm : L'.Perm L
  get : ∀ k, g L' k = if k < a then g L k else if k < a + (b - m) then g L (k + (m - a)) else if k < b then g L (k - (b - m)) else g L k
theorem rot_of (x u v y : List Pr) : Rot x.length (x.length + u.length) (x.length + u.length + v.length) (x ++ u ++ v ++ y) (x ++ v ++ u ++ y) := by
  refine ⟨?_, fun k => ?_⟩
  · simp only [List.append_assoc]
    refine List.Perm.append_left _ ?_
    rw [← List.append_assoc, ← List.append_assoc]
    exact List.Perm.append_right _ List.perm_append_comm
  · unfold g
    simp only [List.getD_eq_getElem?_getD, List.append_assoc, List.getElem?_append]
    by_cases h1 : k < x.length
    · simp [h1]
    · by_cases h2 : k < x.length + v.length
      · have e1 : k - x.length < v.length := by omega
        have e2 : x.length + u.length + v.length - (x.length + u.length) = v.length := by omega
        have e3 : x.length + u.length - x.length = u.length := by omega
        have e4 : ¬ k + u.length < x.length := by omega
        have e5 : ¬ k + u.length - x.length < u.length := by omega
        have e6 : k + u.length - x.length - u.length = k - x.length := by omega
        rw [if_neg h1, if_neg h1, if_pos e1, e2, e3, if_pos h2, if_neg e4, if_neg e5, e6, if_pos e1]
      · have e1 : ¬ k - x.length < v.length := by omega
        have e2 : x.length + u.length + v.length - (x.length + u.length) = v.length := by omega
        rw [if_neg h1, if_neg h1, if_neg e1, e2, if_neg h2]
        by_cases h3 : k < x.length + u.length + v.length
        · have e4 : k - x.length - v.length < u.length := by omega
          have e5 : ¬ k - v.length < x.length := by omega
          have e6 : k - v.length - x.length = k - x.length - v.length := by omega
          rw [if_pos e4, if_pos h3, if_neg e5, e6, if_pos e4]
        · have e4 : ¬ k - x.length - v.length < u.length := by omega
          have e5 : ¬ k - x.length < u.length := by omega
          have e6 : ¬ k - x.length - u.length < v.length := by omega
          have e7 : k - x.length - v.length - u.length = k - x.length - u.length - v.length := by omega
          rw [if_neg e4, if_neg h3, if_neg h1, if_neg e5, if_neg e6, e7]
theorem Rot.mv {a m b : Nat} {L L' : List Pr} (h : Rot a m b L L') (h1 : a ≤ m) (h2 : m ≤ b) : Mv a b L L' := by
  refine ⟨h.perm, fun k hk => ?_, fun k hk1 hk2 => ?_⟩
  · rw [h.get]
    rcases hk with hk | hk
    · rw [if_pos hk]
    · rw [if_neg (by omega), if_neg (by omega), if_neg (by omega)]
  · rw [h.get, if_neg (by omega)]
    by_cases e : k < a + (b - m)
    · exact ⟨k + (m - a), by omega, by omega, by rw [if_pos e]⟩
    · exact ⟨k - (b - m), by omega, by omega, by rw [if_neg e, if_pos hk2]⟩
theorem Rot.c {a m b : Nat} {L L' : List Pr} (h : Rot a m b L L') (h1 : a ≤ m) (h2 : m ≤ b) (hb : b ≤ L.length) (hc : C L) (hlt : ∀ p q, a ≤ p → p < m → m ≤ q → q < b → (g L q).1 < (g L p).1) : C L' := by
  intro p q hpq hq
  rw [h.perm.length_eq] at hq
  rw [h.get, h.get]
  by_cases p1 : p < a
  · rw [if_pos p1]
    by_cases q1 : q < a
    · rw [if_pos q1]; exact hc p q hpq hq
    · rw [if_neg q1]
      by_cases q2 : q < a + (b - m)
      · rw [if_pos q2]; exact hc p _ (by omega) (by omega)
      · rw [if_neg q2]
        by_cases q3 : q < b
        · rw [if_pos q3]; exact hc p _ (by omega) (by omega)
        · rw [if_neg q3]; exact hc p q hpq hq
  · rw [if_neg p1, if_neg (show ¬ q < a by omega)]
    by_cases p2 : p < a + (b - m)
    · rw [if_pos p2]
      by_cases q2 : q < a + (b - m)
      · rw [if_pos q2]; exact hc _ _ (by omega) (by omega)
      · rw [if_neg q2]
        by_cases q3 : q < b
        · rw [if_pos q3]
          intro e
          have := hlt (q - (b - m)) (p + (m - a)) (by omega) (by omega) (by omega) (by omega)
          omega
        · rw [if_neg q3]; exact hc _ _ (by omega) (by omega)
    · rw [if_neg p2, if_neg (show ¬ q < a + (b - m) by omega)]
      by_cases p3 : p < b
      · rw [if_pos p3]
        by_cases q3 : q < b
        · rw [if_pos q3]; exact hc _ _ (by omega) (by omega)
        · rw [if_neg q3]; exact hc _ _ (by omega) (by omega)
      · rw [if_neg p3, if_neg (show ¬ q < b by omega)]; exact hc p q hpq hq

/-- What the search of a merge has found: start and its mirror. -/
structure Cut (L : List Pr) (a m b s t : Nat) : Prop where
  as_ : a ≤ s
  sm : s ≤ m
  mt : m ≤ t
  tb : t ≤ b
  hi : s < m → m < t → (g L (t - 1)).1 < (g L s).1
  lo : a < s → t < b → (g L (s - 1)).1 ≤ (g L t).1
theorem Cut.less {L : List Pr} {a m b s t : Nat} (h : Cut L a m b s t) (h1 : Seg L a m) (h2 : Seg L m b) : ∀ p q, s ≤ p → p < m → m ≤ q → q < t → (g L q).1 < (g L p).1 := by
  intro p q p1 p2 q1 q2
  have k0 := h.hi (by omega) (by omega)
  have a0 := h.as_
  have t0 := h.tb
  have k1 : (g L s).1 ≤ (g L p).1 := by
    by_cases e : s = p
    · subst e; exact Int.le_refl _
    · exact h1 s p a0 (by omega) p2
  have k2 : (g L q).1 ≤ (g L (t - 1)).1 := by
    by_cases e : q = t - 1
    · subst e; exact Int.le_refl _
    · exact h2 q (t - 1) q1 (by omega) (by omega)
  omega
/-- Behind the rotation: four segments, and all of the first two is no more than all of the last two. -/
theorem cut_rot {L L' : List Pr} {a m b s t : Nat} (h : Cut L a m b s t) (h1 : Seg L a m) (h2 : Seg L m b) (r : Rot s m t L L') :
    Seg L' a s ∧ Seg L' s (s + (t - m)) ∧ Seg L' (s + (t - m)) t ∧ Seg L' t b ∧ ∀ p q, a ≤ p → p < s + (t - m) → s + (t - m) ≤ q → q < b → (g L' p).1 ≤ (g L' q).1 := by
  have b1 := h.as_
  have b2 := h.sm
  have b3 := h.mt
  have b4 := h.tb
  have hl := h.less h1 h2
  have e1 : ∀ k, k < s → g L' k = g L k := fun k hk => by rw [r.get, if_pos hk]
  have e2 : ∀ k, s ≤ k → k < s + (t - m) → g L' k = g L (k + (m - s)) := fun k k1 k2 => by rw [r.get, if_neg (by omega), if_pos k2]
  have e3 : ∀ k, s + (t - m) ≤ k → k < t → g L' k = g L (k - (t - m)) := fun k k1 k2 => by rw [r.get, if_neg (by omega), if_neg (by omega), if_pos k2]
  have e4 : ∀ k, t ≤ k → g L' k = g L k := fun k k1 => by rw [r.get, if_neg (by omega), if_neg (by omega), if_neg (by omega)]
  refine ⟨fun p q p1 p2 p3 => ?_, fun p q p1 p2 p3 => ?_, fun p q p1 p2 p3 => ?_, fun p q p1 p2 p3 => ?_, fun p q p1 p2 q1 q2 => ?_⟩
  · rw [e1 p (by omega), e1 q p3]; exact h1 p q p1 p2 (by omega)
  · rw [e2 p p1 (by omega), e2 q (by omega) p3]; exact h2 _ _ (by omega) (by omega) (by omega)
  · rw [e3 p p1 (by omega), e3 q (by omega) p3]; exact h1 _ _ (by omega) (by omega) (by omega)
  · rw [e4 p p1, e4 q (by omega)]; exact h2 _ _ (by omega) p2 p3
  · by_cases c1 : p < s
    · rw [e1 p c1]
      by_cases c2 : q < t
      · rw [e3 q q1 c2]; exact h1 _ _ p1 (by omega) (by omega)
      · rw [e4 q (by omega)]
        have k0 := h.lo (by omega) (by omega)
        have k1 : (g L p).1 ≤ (g L (s - 1)).1 := by
          by_cases e : p = s - 1
          · subst e; exact Int.le_refl _
          · exact h1 p (s - 1) p1 (by omega) (by omega)
        have k2 : (g L t).1 ≤ (g L q).1 := by
          by_cases e : t = q
          · subst e; exact Int.le_refl _
          · exact h2 t q b3 (by omega) q2
        omega
    · rw [e2 p (by omega) p2]
      by_cases c2 : q < t
      · rw [e3 q q1 c2]
        have := hl (q - (t - m)) (p + (m - s)) (by omega) (by omega) (by omega) (by omega)
        omega
      · rw [e4 q (by omega)]; exact h2 _ _ (by omega) (by omega) q2
/-- Both halves put in order. -/
theorem seg_join {L L1 L2 : List Pr} {a c b : Nat} (hc : ∀ p q, a ≤ p → p < c → c ≤ q → q < b → (g L p).1 ≤ (g L q).1) (m1 : Mv a c L L1) (m2 : Mv c b L1 L2) (s1 : Seg L1 a c) (s2 : Seg L2 c b) : Seg L2 a b := by
  intro p q p1 p2 p3
  by_cases q1 : q < c
  · rw [m2.out p (by omega), m2.out q (by omega)]; exact s1 p q p1 p2 q1
  · by_cases p4 : p < c
    · rw [m2.out p (by omega)]
      obtain ⟨p', x1, x2, e1⟩ := m1.mem p p1 p4
      obtain ⟨q', y1, y2, e2⟩ := m2.mem q (by omega) p3
      rw [e1, e2, m1.out q' (by omega)]
      exact hc p' q' x1 x2 y1 y2
    · exact s2 p q (by omega) p2 p3

/-- Blocks of a size from a place on, to the end; and up to a place. -/
inductive Bf (L : List Pr) (z : Nat) : Nat → Prop
  | done {a : Nat} : L.length ≤ a → Bf L z a
  | step {a : Nat} : Seg L a (min (a + z) L.length) → Bf L z (a + z) → Bf L z a
inductive Pre (L : List Pr) (z : Nat) : Nat → Prop
  | zero : Pre L z 0
  | step {a : Nat} : Pre L z a → Seg L a (a + z) → a + z ≤ L.length → Pre L z (a + z)
theorem Bf.head {L : List Pr} {z a : Nat} (h : Bf L z a) : Seg L a (min (a + z) L.length) := by
  cases h with
  | done h => exact fun p q h1 h2 h3 => by omega
  | step h _ => exact h
theorem Bf.tail {L : List Pr} {z a : Nat} (h : Bf L z a) : Bf L z (a + z) := by
  cases h with
  | done h => exact .done (by omega)
  | step _ h => exact h
theorem Bf.mv {L L' : List Pr} {z a b c : Nat} (h : Bf L z c) (m : Mv a b L L') (hb : b ≤ c) : Bf L' z c := by
  induction h with
  | done h => exact .done (by rw [m.len]; exact h)
  | step s _ ih => exact .step (by rw [m.len]; exact s.out m (Or.inr hb)) (ih (by omega))
theorem Pre.mv {L L' : List Pr} {z a b c : Nat} (h : Pre L z c) (m : Mv a b L L') (hc : c ≤ a) : Pre L' z c := by
  induction h with
  | zero => exact .zero
  | step _ s hl ih => exact .step (ih (by omega)) (s.out m (Or.inl hc)) (by rw [m.len]; exact hl)
theorem Pre.join {L : List Pr} {z c : Nat} (h : Pre L z c) (b : Bf L z c) : Bf L z 0 := by
  induction h with
  | zero => exact b
  | step _ s hl ih => exact ih (.step (by rw [Nat.min_eq_left hl]; exact s) b)
end Go.Proofs.Ytlhmlejkfgejiaa.StabM
