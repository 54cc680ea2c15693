/-
  Corners in their order, their places among single turns, the first pair; the rotation gone through turn by turn: mathematics; no program stands here. Conditions: none.
-/
import Derived.Test.YtkakeakdgidigaaKtM
namespace Go.Proofs.Ytkakeakdgidigaa.KtM

/-- A turn's corners; the first so many turns' corners; all corners. -/
def crn1 (i : Nat) (t : Int) : List (Nat × Nat) := if t = -1 then [(i, 0)] else if t = -2 then [(i, 0), (i, 1)] else []
def crnK (T : List Int) : Nat → List (Nat × Nat)
  | 0 => []
  | i + 1 => crnK T i ++ crn1 i (T.getD i 0)
def crns (T : List Int) : List (Nat × Nat) := crnK T T.length
/-- Where a turn's single ones begin; where a corner stands. -/
def posO (T : List Int) (i : Nat) : Nat := (sgs (T.take i)).length
def posC (T : List Int) (c : Nat × Nat) : Nat := posO T c.1 + c.2
theorem sgl_len (t : Int) : 1 ≤ (sgl t).length ∧ (sgl t).length ≤ 2 := by unfold sgl; split <;> simp
theorem sgs_len : ∀ T : List Int, T.length ≤ (sgs T).length ∧ (sgs T).length ≤ 2 * T.length
  | [] => by simp [sgs_nil]
  | t :: T => by
    have h1 := sgs_len T
    have h2 := sgl_len t
    rw [sgs_cons, List.length_append, List.length_cons]
    omega
theorem posO_zero (T : List Int) : posO T 0 = 0 := by simp [posO, sgs_nil]
theorem posO_all (T : List Int) : posO T T.length = (sgs T).length := by unfold posO; rw [List.take_length]
theorem take_one {T : List Int} {i : Nat} (h : i < T.length) : T.take (i + 1) = T.take i ++ [T.getD i 0] := by
  rw [List.take_succ_eq_append_getElem h, List.getD_eq_getElem?_getD, List.getElem?_eq_getElem h]; rfl
theorem sgs_take {T : List Int} {i : Nat} (h : i < T.length) : sgs (T.take (i + 1)) = sgs (T.take i) ++ sgl (T.getD i 0) := by rw [take_one h, sgs_app, sgs_one]
theorem posO_step {T : List Int} {i : Nat} (h : i < T.length) : posO T (i + 1) = posO T i + (sgl (T.getD i 0)).length := by unfold posO; rw [sgs_take h, List.length_append]
theorem posO_mono {T : List Int} {i : Nat} : ∀ d, i + d ≤ T.length → posO T i + d ≤ posO T (i + d)
  | 0, _ => Nat.le_refl _
  | d + 1, h => by
    have h1 := posO_mono (T := T) (i := i) d (by omega)
    have h2 := posO_step (T := T) (i := i + d) (by omega)
    have h3 := (sgl_len (T.getD (i + d) 0)).1
    rw [show i + (d + 1) = i + d + 1 by omega, h2]
    omega
/-- A single turn, by the turn that it is of. -/
theorem sgs_at {T : List Int} {i p : Nat} (h : i < T.length) (hp : p < (sgl (T.getD i 0)).length) : posO T i + p < (sgs T).length ∧ (sgs T).getD (posO T i + p) 0 = (sgl (T.getD i 0)).getD p 0 := by
  have e : sgs T = sgs (T.take i) ++ (sgl (T.getD i 0) ++ sgs (T.drop (i + 1))) := by
    rw [← List.append_assoc, ← sgs_take h, ← sgs_app, List.take_append_drop]
  have hl : posO T i = (sgs (T.take i)).length := rfl
  constructor
  · rw [e, List.length_append, List.length_append, ← hl]; omega
  · rw [e, getD_right (by omega), ← hl, Nat.add_sub_cancel_left, getD_left hp]
theorem sgs_which {T : List Int} : ∀ {r : Nat}, r < (sgs T).length → ∃ i p, i < T.length ∧ p < (sgl (T.getD i 0)).length ∧ r = posO T i + p := by
  have key : ∀ n, n ≤ T.length → ∀ r, r < posO T n → ∃ i p, i < n ∧ p < (sgl (T.getD i 0)).length ∧ r = posO T i + p := by
    intro n
    induction n with
    | zero => intro _ r hr; rw [posO_zero] at hr; omega
    | succ n ih =>
      intro hn r hr
      have h2 := posO_step (T := T) (i := n) (by omega)
      by_cases c : r < posO T n
      · obtain ⟨i, p, h1, h3⟩ := ih (by omega) r c
        exact ⟨i, p, by omega, h3⟩
      · exact ⟨n, r - posO T n, by omega, by omega, by omega⟩
  intro r hr
  exact key T.length (Nat.le_refl _) r (by rw [posO_all]; exact hr)
theorem mem_crn1 {i : Nat} {t : Int} {c : Nat × Nat} : c ∈ crn1 i t ↔ c.1 = i ∧ c.2 < (sgl t).length ∧ (sgl t).getD c.2 0 = -1 := by
  obtain ⟨a, b⟩ := c
  unfold crn1 sgl
  by_cases h1 : t = -1
  · subst h1
    simp only [if_pos, List.mem_singleton, Prod.mk.injEq]
    rw [if_neg (by decide)]
    constructor
    · rintro ⟨rfl, rfl⟩; exact ⟨rfl, by decide, rfl⟩
    · rintro ⟨rfl, h, _⟩; exact ⟨rfl, by simp at h; exact h⟩
  · rw [if_neg h1]
    by_cases h2 : t = -2
    · rw [if_pos h2, if_pos h2]
      simp only [List.mem_cons, Prod.mk.injEq, List.not_mem_nil, or_false, List.length_cons, List.length_nil]
      constructor
      · rintro (⟨rfl, rfl⟩ | ⟨rfl, rfl⟩)
        · exact ⟨rfl, by decide, rfl⟩
        · exact ⟨rfl, by decide, rfl⟩
      · rintro ⟨rfl, h, _⟩
        rcases (by omega : b = 0 ∨ b = 1) with rfl | rfl
        · exact Or.inl ⟨rfl, rfl⟩
        · exact Or.inr ⟨rfl, rfl⟩
    · rw [if_neg h2, if_neg h2]
      simp only [List.not_mem_nil, List.length_cons, List.length_nil, false_iff]
      rintro ⟨_, h, e⟩
      obtain rfl : b = 0 := by omega
      exact h1 (by simpa using e)
theorem mem_crnK {T : List Int} {c : Nat × Nat} : ∀ {k : Nat}, c ∈ crnK T k ↔ c.1 < k ∧ c.2 < (sgl (T.getD c.1 0)).length ∧ (sgl (T.getD c.1 0)).getD c.2 0 = -1
  | 0 => by simp [crnK]
  | k + 1 => by
    rw [crnK, List.mem_append, mem_crnK (k := k), mem_crn1]
    constructor
    · rintro (⟨h1, h2⟩ | ⟨h1, h2⟩)
      · exact ⟨by omega, h2⟩
      · rw [← h1] at h2; exact ⟨by omega, h2⟩
    · rintro ⟨h1, h2⟩
      by_cases e : c.1 = k
      · right; rw [← e]; exact ⟨rfl, h2⟩
      · left; exact ⟨by omega, h2⟩
theorem mem_crns {T : List Int} {c : Nat × Nat} : c ∈ crns T ↔ c.1 < T.length ∧ c.2 < (sgl (T.getD c.1 0)).length ∧ (sgl (T.getD c.1 0)).getD c.2 0 = -1 := mem_crnK
theorem corner_at {T : List Int} {c : Nat × Nat} (h : c ∈ crns T) : isC (sgs T) (posC T c) := by
  obtain ⟨h1, h2, h3⟩ := mem_crns.1 h
  obtain ⟨h4, h5⟩ := sgs_at h1 h2
  exact ⟨h4, h5.trans h3⟩
theorem corner_of {T : List Int} {r : Nat} (h : isC (sgs T) r) : ∃ c ∈ crns T, posC T c = r := by
  obtain ⟨h1, h2⟩ := h
  obtain ⟨i, p, hi, hp, rfl⟩ := sgs_which h1
  exact ⟨(i, p), mem_crns.2 ⟨hi, hp, (sgs_at hi hp).2.symm.trans h2⟩, rfl⟩
theorem crnK_len (T : List Int) : ∀ k, (crnK T k).length ≤ 2 * k
  | 0 => by simp [crnK]
  | k + 1 => by
    have h := crnK_len T k
    have h2 : (crn1 k (T.getD k 0)).length ≤ 2 := by unfold crn1; split; · simp
                                                     split <;> simp
    rw [crnK, List.length_append]
    omega
/-- They stand in their order. -/
theorem crnK_sorted {T : List Int} : ∀ k, k ≤ T.length → ((crnK T k).map (posC T)).Pairwise (· < ·) ∧ ∀ c ∈ crnK T k, posC T c < posO T k
  | 0, _ => by simp [crnK]
  | k + 1, hk => by
    obtain ⟨h1, h2⟩ := crnK_sorted (T := T) k (by omega)
    have hs := posO_step (T := T) (i := k) (by omega)
    have hn : ∀ c ∈ crn1 k (T.getD k 0), posO T k ≤ posC T c ∧ posC T c < posO T (k + 1) := by
      intro c hc
      obtain ⟨e, h3, _⟩ := mem_crn1.1 hc
      unfold posC
      rw [e]
      omega
    constructor
    · rw [crnK, List.map_append, List.pairwise_append]
      refine ⟨h1, ?_, ?_⟩
      · unfold crn1
        split
        · simp
        · split
          · simp [posC]
          · simp
      · intro x hx y hy
        obtain ⟨a, ha, rfl⟩ := List.mem_map.1 hx
        obtain ⟨b, hb, rfl⟩ := List.mem_map.1 hy
        have := h2 a ha
        have := (hn b hb).1
        omega
    · intro c hc
      rw [crnK, List.mem_append] at hc
      rcases hc with hc | hc
      · have := h2 c hc
        have := (sgl_len (T.getD k 0)).1
        omega
      · exact (hn c hc).2
/-- The i-th corner; where it stands. -/
def crnA (T : List Int) (i : Nat) : Nat × Nat := (crns T).getD i (0, 0)
def cpos (T : List Int) (i : Nat) : Nat := posC T (crnA T i)
theorem crnA_mem {T : List Int} {i : Nat} (h : i < (crns T).length) : crnA T i ∈ crns T := by
  unfold crnA
  rw [List.getD_eq_getElem?_getD, List.getElem?_eq_getElem h]
  exact List.getElem_mem h
theorem cpos_lt {T : List Int} {i j : Nat} (h : i < j) (hj : j < (crns T).length) : cpos T i < cpos T j := by
  have hs := (crnK_sorted (T := T) T.length (Nat.le_refl _)).1
  have := (List.pairwise_iff_getElem.1 hs) i j (by rw [List.length_map]; exact Nat.lt_trans h hj) (by rw [List.length_map]; exact hj) h
  rw [List.getElem_map, List.getElem_map] at this
  unfold cpos crnA
  rw [List.getD_eq_getElem?_getD, List.getElem?_eq_getElem (Nat.lt_trans h hj), List.getD_eq_getElem?_getD, List.getElem?_eq_getElem hj]
  exact this
theorem cpos_le {T : List Int} {i j : Nat} (h : i ≤ j) (hj : j < (crns T).length) : cpos T i ≤ cpos T j := by
  rcases Nat.lt_or_eq_of_le h with h | rfl
  · exact Nat.le_of_lt (cpos_lt h hj)
  · exact Nat.le_refl _
theorem cpos_ne {T : List Int} {i j : Nat} (hi : i < (crns T).length) (hj : j < (crns T).length) (h : i ≠ j) : cpos T i ≠ cpos T j := by
  rcases Nat.lt_or_gt_of_ne h with h | h
  · have := cpos_lt h hj; omega
  · have := cpos_lt h hi; omega
/-- The rotation from the i-th corner to the k-th one. -/
def rotC (T : List Int) (a b : Nat × Nat) : Int := rotP (sgs T) (posC T a) (posC T b)
def rotA (T : List Int) (i k : Nat) : Int := rotP (sgs T) (cpos T i) (cpos T k)
theorem rotA_self (T : List Int) (i : Nat) : rotA T i i = 0 := rot_self _ _
theorem rotA_back {T : List Int} {i k : Nat} (hi : i < (crns T).length) (hk : k < (crns T).length) (h : i ≠ k) : rotA T i k + rotA T k i = sumI T := by
  unfold rotA
  rw [rot_back _ (cpos_ne hi hk h), sum_sgs]
theorem rotA_via {T : List Int} {i j k : Nat} (h1 : i ≤ j) (h2 : j ≤ k) (hk : k < (crns T).length) : rotA T i j + rotA T j k = rotA T i k :=
  rot_via _ (cpos_le h1 (by omega)) (cpos_le h2 hk)
theorem pair_iff {T : List Int} : PairE (sgs T) ↔ ∃ i k, i < (crns T).length ∧ k < (crns T).length ∧ rotA T i k = 2 := by
  have key : ∀ r, isC (sgs T) r → ∃ i, i < (crns T).length ∧ cpos T i = r := by
    intro r hr
    obtain ⟨c, hc, e⟩ := corner_of hr
    obtain ⟨i, hi, rfl⟩ := List.getElem_of_mem hc
    refine ⟨i, hi, ?_⟩
    unfold cpos crnA
    rw [List.getD_eq_getElem?_getD, List.getElem?_eq_getElem hi]
    exact e
  constructor
  · rintro ⟨p, q, h1, h2, h3⟩
    obtain ⟨i, hi, rfl⟩ := key p h1
    obtain ⟨k, hk, rfl⟩ := key q h2
    exact ⟨i, k, hi, hk, h3⟩
  · rintro ⟨i, k, hi, hk, h⟩
    exact ⟨_, _, corner_at (crnA_mem hi), corner_at (crnA_mem hk), h⟩
/-- The first pair, by places among the corners. -/
structure FstP (T : List Int) (i k : Nat) : Prop where
  li : i < (crns T).length
  lk : k < (crns T).length
  is : rotA T i k = 2
  row : ∀ j, j < i → ∀ r, r < (crns T).length → rotA T j r ≠ 2
  col : ∀ r, r < k → rotA T i r ≠ 2
theorem FstP.eq {T : List Int} {i k j r : Nat} (h : FstP T i k) (g : FstP T j r) : i = j ∧ k = r := by
  have e : i = j := by
    rcases Nat.lt_trichotomy i j with c | c | c
    · exact absurd h.is (g.row i c k h.lk)
    · exact c
    · exact absurd g.is (h.row j c r g.lk)
  subst e
  refine ⟨rfl, ?_⟩
  rcases Nat.lt_trichotomy k r with c | c | c
  · exact absurd h.is (g.col k c)
  · exact c
  · exact absurd g.is (h.col r c)
/-- No pair among the first so many rows. -/
def NoP (T : List Int) (i : Nat) : Prop := ∀ j, j < i → ∀ r, r < (crns T).length → rotA T j r ≠ 2
theorem NoP.all {T : List Int} (h : NoP T (crns T).length) : ¬ PairE (sgs T) := fun g => by
  obtain ⟨i, k, hi, hk, e⟩ := pair_iff.1 g
  exact h i hi k hk e
theorem FstP.pair {T : List Int} {i k : Nat} (h : FstP T i k) : PairE (sgs T) := pair_iff.2 ⟨i, k, h.li, h.lk, h.is⟩
theorem crnK_count {T : List Int} : ∀ k, k ≤ T.length → (crnK T k).length = (sgs (T.take k)).count (-1)
  | 0, _ => by simp [crnK, sgs_nil]
  | k + 1, hk => by
    have h := crnK_count (T := T) k (by omega)
    rw [crnK, List.length_append, h, sgs_take (by omega), List.count_append]
    congr 1
    unfold crn1 sgl
    by_cases h1 : T.getD k 0 = -1
    · rw [h1]; rfl
    · rw [if_neg h1]
      by_cases h2 : T.getD k 0 = -2
      · rw [h2]; rfl
      · rw [if_neg h2, if_neg h2, List.count_cons, List.count_nil, beq_eq_false_iff_ne.2 h1]; rfl
theorem crns_count (T : List Int) : (crns T).length = (sgs T).count (-1) := by
  have := crnK_count (T := T) T.length (Nat.le_refl _)
  rwa [List.take_length] at this
theorem crns_flat (T : List Int) (i z : Nat) : (crns (T.take i ++ List.replicate z 0 ++ T.drop i)).length = (crns T).length := by
  rw [crns_count, crns_count, sgs_app, sgs_app, sgs_zeros, List.count_append, List.count_append]
  have e : sgs T = sgs (T.take i) ++ sgs (T.drop i) := by rw [← sgs_app, List.take_append_drop]
  rw [e, List.count_append, List.count_replicate]
  simp
/-! The rotation gone through single turn by single turn. -/
def wlkS (S : List Int) (p : Nat) : Nat → Int
  | 0 => 0
  | j + 1 => wlkS S p j + S.getD ((p + j) % S.length) 0
/-- How many single turns there are from one place to another, going round. -/
def dstN (N p q : Nat) : Nat := if p ≤ q then q - p else N - p + q
theorem wlk_is {S : List Int} {p : Nat} (hp : p < S.length) : ∀ j, j ≤ S.length → wlkS S p j = if p + j ≤ S.length then preI S (p + j) - preI S p else sumI S - preI S p + preI S (p + j - S.length)
  | 0, _ => by rw [if_pos (by omega)]; simp [wlkS]
  | j + 1, hj => by
    rw [wlkS, wlk_is hp j (by omega)]
    by_cases c : p + (j + 1) ≤ S.length
    · rw [if_pos (by omega), if_pos c, Nat.mod_eq_of_lt (by omega), ← Nat.add_assoc, pre_step (by omega)]
      omega
    · rw [if_neg c]
      by_cases d : p + j ≤ S.length
      · have e : p + j = S.length := by omega
        have z : p + (j + 1) - S.length = 0 + 1 := by omega
        rw [if_pos d, e, Nat.mod_self, z, pre_step (by omega), pre_all S (Nat.le_refl _), pre_zero]
        omega
      · rw [if_neg d]
        have e : (p + j) % S.length = p + j - S.length := by
          rw [Nat.mod_eq_sub_mod (by omega), Nat.mod_eq_of_lt (by omega)]
        rw [e, show p + (j + 1) - S.length = p + j - S.length + 1 by omega, pre_step (by omega)]
        omega
theorem rot_walk {S : List Int} {p q : Nat} (hp : p < S.length) (hq : q < S.length) : rotP S p q = wlkS S p (dstN S.length p q) := by
  unfold rotP dstN
  by_cases c : p ≤ q
  · rw [if_pos c, if_pos c, wlk_is hp _ (by omega), if_pos (by omega), show p + (q - p) = q by omega]
  · rw [if_neg c, if_neg c, wlk_is hp _ (by omega)]
    by_cases d : q = 0
    · subst d
      rw [if_pos (by omega), pre_zero, show p + (S.length - p + 0) = S.length by omega, pre_all S (Nat.le_refl _)]
      omega
    · rw [if_neg (by omega), show p + (S.length - p + q) - S.length = q by omega]
theorem dst_at {N p q j : Nat} (hp : p < N) (hq : q < N) (hj : j ≤ dstN N p q) : (p + j) % N = q ↔ j = dstN N p q := by
  unfold dstN at *
  by_cases c : p ≤ q
  · rw [if_pos c] at *
    rw [Nat.mod_eq_of_lt (by omega)]
    omega
  · rw [if_neg c] at *
    by_cases d : p + j < N
    · rw [Nat.mod_eq_of_lt d]; omega
    · rw [Nat.mod_eq_sub_mod (by omega), Nat.mod_eq_of_lt (by omega)]; omega
theorem dst_lt {N p q : Nat} (hp : p < N) (hq : q < N) : dstN N p q < N := by unfold dstN; split <;> omega
theorem step_mod {N p j : Nat} : ((p + j) % N + 1) % N = (p + (j + 1)) % N := by rw [Nat.mod_add_mod, Nat.add_assoc]
/-- Single turns of turns that may be are small. -/
def GoodT (T : List Int) : Prop := ∀ t ∈ T, -2 ≤ t ∧ t ≤ 1
theorem sgl_small {t : Int} (h : -2 ≤ t ∧ t ≤ 1) : ∀ s ∈ sgl t, -1 ≤ s ∧ s ≤ 1 := by
  intro s hs
  unfold sgl at hs
  split at hs
  · simp at hs; omega
  · simp at hs; omega
theorem sgs_small {T : List Int} (h : GoodT T) : ∀ s ∈ sgs T, -1 ≤ s ∧ s ≤ 1 := by
  intro s hs
  unfold sgs at hs
  obtain ⟨t, ht, hs⟩ := List.mem_flatMap.1 hs
  exact sgl_small (h t ht) s hs
theorem getD_small {S : List Int} (h : ∀ s ∈ S, -1 ≤ s ∧ s ≤ 1) (k : Nat) : -1 ≤ S.getD k 0 ∧ S.getD k 0 ≤ 1 := by
  by_cases c : k < S.length
  · rw [List.getD_eq_getElem?_getD, List.getElem?_eq_getElem c]
    exact h _ (List.getElem_mem c)
  · rw [List.getD_eq_getElem?_getD, List.getElem?_eq_none (by omega)]
    simp
theorem wlk_small {S : List Int} (h : ∀ s ∈ S, -1 ≤ s ∧ s ≤ 1) (p : Nat) : ∀ j : Nat, -(j : Int) ≤ wlkS S p j ∧ wlkS S p j ≤ (j : Int)
  | 0 => by simp [wlkS]
  | j + 1 => by
    have h1 := wlk_small h p j
    have h2 := getD_small h ((p + j) % S.length)
    rw [wlkS]
    omega
theorem rot_small {S : List Int} (h : ∀ s ∈ S, -1 ≤ s ∧ s ≤ 1) {p q : Nat} (hp : p < S.length) (hq : q < S.length) : -(S.length : Int) ≤ rotP S p q ∧ rotP S p q ≤ S.length := by
  rw [rot_walk hp hq]
  have h1 := wlk_small h p (dstN S.length p q)
  have h2 := dst_lt hp hq
  omega
end Go.Proofs.Ytkakeakdgidigaa.KtM
