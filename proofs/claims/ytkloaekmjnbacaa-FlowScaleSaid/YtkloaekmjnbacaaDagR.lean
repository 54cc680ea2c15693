/-
  Ranks in plain mathematics: the sorted numbers without doubles; how many are less; ranks keep the order and cost no more. Conditions: none.
-/
import Derived.Test.YtkloaekmjnbacaaDagN
import Derived.Lib.SlicesCompact
namespace Go.Proofs.Ytkloaekmjnbacaa.DagM
open Go.Lib

theorem same_len {α : Type} {l1 l2 : List α} [BEq α] [LawfulBEq α] (h1 : l1.Nodup) (h2 : l2.Nodup) (h : ∀ a, a ∈ l1 ↔ a ∈ l2) : l1.length = l2.length :=
  Nat.le_antisymm (h1.length_le_of_subset (fun a ha => (h a).1 ha)) (h2.length_le_of_subset (fun a ha => (h a).2 ha))

section
variable {z : List Int}
theorem keeps_iff (i : Nat) (hi : i < z.length) : keeps z.toArray i = true ↔ i = 0 ∨ z[i] ≠ z[i - 1]'(by omega) := by
  unfold keeps
  simp [getElem!_pos, hi, show i - 1 < z.length by omega]
theorem mem_compact {a : Int} : a ∈ compact z ↔ a ∈ z := by
  unfold compact compactUpTo
  simp only [List.mem_map, List.mem_filter, List.mem_range]
  constructor
  · rintro ⟨i, ⟨hi, _⟩, rfl⟩
    simp [getElem!_pos, hi]
  · intro ha
    have : ∀ k (hk : k < z.length), z[k] = a → ∃ i, (i < z.length ∧ keeps z.toArray i = true) ∧ z.toArray[i]! = a := by
      intro k
      induction k with
      | zero => intro hk e; exact ⟨0, ⟨hk, (keeps_iff 0 hk).2 (Or.inl rfl)⟩, by simp [getElem!_pos, hk, e]⟩
      | succ k ih =>
        intro hk e
        by_cases h : z[k] = a
        · exact ih (by omega) h
        · exact ⟨k + 1, ⟨hk, (keeps_iff (k + 1) hk).2 (Or.inr (by simp only [Nat.add_sub_cancel]; rw [e]; exact fun e2 => h e2.symm))⟩, by simp [getElem!_pos, hk, e]⟩
    obtain ⟨k, hk, e⟩ := List.getElem_of_mem ha
    exact this k hk e
theorem compact_lt (h : z.Pairwise (· ≤ ·)) : (compact z).Pairwise (· < ·) := by
  unfold compact compactUpTo
  rw [List.pairwise_map]
  have hr : ((List.range z.length).filter (keeps z.toArray)).Pairwise (· < ·) := List.Pairwise.sublist List.filter_sublist List.pairwise_lt_range
  refine hr.imp_of_mem fun {i j} hi hj hij => ?_
  obtain ⟨hi1, hi2⟩ := List.mem_filter.1 hi
  obtain ⟨hj1, hj2⟩ := List.mem_filter.1 hj
  simp only [List.mem_range] at hi1 hj1
  have hp := List.pairwise_iff_getElem.1 h
  have hk := (keeps_iff j hj1).1 hj2
  simp only [List.getElem!_toArray, getElem!_pos, hi1, hj1]
  have h1 : z[i] ≤ z[j - 1]'(by omega) := by
    by_cases e : i = j - 1
    · subst e; omega
    · exact hp i (j - 1) hi1 (by omega) (by omega)
  have h2 := hp (j - 1) j (by omega) hj1 (by omega)
  rcases hk with h0 | h0
  · omega
  · omega
end

def sorted (x : List Int) : List Int := x.mergeSort fun a b => decide (a ≤ b)
theorem sorted_le (x : List Int) : (sorted x).Pairwise (· ≤ ·) := by
  have h := List.pairwise_mergeSort (le := fun (x y : Int) => decide (x ≤ y)) (fun a b c h1 h2 => by simp only [decide_eq_true_eq] at *; omega) (fun a b => by simp only [Bool.or_eq_true, decide_eq_true_eq]; omega) x
  exact h.imp fun {a b} h => by simpa using h
theorem mem_sorted {x : List Int} {a : Int} : a ∈ sorted x ↔ a ∈ x := (List.mergeSort_perm _ _).mem_iff
def unlike (x : List Int) : List Int := compact (sorted x)
theorem unlike_lt (x : List Int) : (unlike x).Pairwise (· < ·) := compact_lt (sorted_le x)
theorem mem_unlike {x : List Int} {a : Int} : a ∈ unlike x ↔ a ∈ x := mem_compact.trans mem_sorted
theorem unlike_nd (x : List Int) : (unlike x).Nodup := by
  rw [List.nodup_iff_pairwise_ne]
  exact (unlike_lt x).imp fun h e => by omega
theorem unlike_len (x : List Int) : (unlike x).length ≤ x.length := by
  have h := (unlike_nd x).length_le_of_subset (l₂ := x) (fun a ha => mem_unlike.1 ha)
  exact h
/-- How many unlike lesser ones there are. -/
def rk (x : List Int) (v : Int) : Nat := (unlike x).countP (· < v)
theorem rk_of {x l : List Int} {v : Int} (h : l.Nodup) (hm : ∀ y, y ∈ l ↔ y ∈ x ∧ y < v) : l.length = rk x v := by
  unfold rk
  rw [List.countP_eq_length_filter]
  refine same_len h (List.Nodup.sublist List.filter_sublist (unlike_nd x)) fun a => ?_
  rw [hm, List.mem_filter, mem_unlike]
  simp
theorem rk_le (x : List Int) (v : Int) : rk x v ≤ x.length := Nat.le_trans List.countP_le_length (unlike_len x)
def rkL (x : List Int) : List Nat := x.map (rk x)
theorem count_split (l : List Int) {a b : Int} (h : a ≤ b) : l.countP (· < b) = l.countP (· < a) + l.countP (fun y => decide (a ≤ y) && decide (y < b)) := by
  induction l with
  | nil => rfl
  | cons y l ih =>
    simp only [List.countP_cons, ih]
    by_cases h1 : y < a
    · have h2 : y < b := by omega
      have h3 : ¬ a ≤ y := by omega
      simp [h1, h2, h3]; omega
    · by_cases h2 : y < b
      · have h3 : a ≤ y := by omega
        simp [h1, h2, h3]; omega
      · simp [h1, h2]
theorem rk_lt {x : List Int} {a b : Int} (ha : a ∈ x) (h : a < b) : rk x a < rk x b := by
  unfold rk
  rw [count_split (unlike x) (Int.le_of_lt h)]
  have : 0 < (unlike x).countP (fun y => decide (a ≤ y) && decide (y < b)) := List.countP_pos_iff.2 ⟨a, mem_unlike.2 ha, by simp [h]⟩
  omega
theorem rk_near {x : List Int} {a b : Int} (h : a ≤ b) : (rk x b : Int) - rk x a ≤ b - a := by
  unfold rk
  rw [count_split (unlike x) h]
  have hp : (unlike x).countP (fun y => decide (a ≤ y) && decide (y < b)) ≤ (b - a).toNat := by
    rw [List.countP_eq_length_filter]
    have hnd : (((unlike x).filter fun y => decide (a ≤ y) && decide (y < b)).map fun y => (y - a).toNat).Nodup := by
      rw [List.nodup_iff_pairwise_ne, List.pairwise_map]
      refine (List.Pairwise.sublist List.filter_sublist (unlike_lt x)).imp_of_mem fun {i j} hi hj hij => ?_
      have h1 := (List.mem_filter.1 hi).2
      have h2 := (List.mem_filter.1 hj).2
      simp only [Bool.and_eq_true, decide_eq_true_eq] at h1 h2
      omega
    have := pigeon (n := (b - a).toNat) hnd (fun v hv => by
      obtain ⟨y, hy, rfl⟩ := List.mem_map.1 hv
      have h1 := (List.mem_filter.1 hy).2
      simp only [Bool.and_eq_true, decide_eq_true_eq] at h1
      omega)
    simpa using this
  omega
def castI (l : List Nat) : List Int := l.map fun (v : Nat) => (v : Int)
theorem val_rk {x : List Int} {i : Int} (h : i.toNat < x.length) : val (castI (rkL x)) i = rk x (val x i) ∧ val x i ∈ x := by
  unfold val castI rkL
  simp [List.getD_eq_getElem?_getD, h]
/-- Ranks of coordinates that fit fit, and cost no more. -/
theorem ranks_fit {n : Int} {L : List Arc} {x : List Int} (hM : May n L) (hl : (x.length : Int) = n) (hf : fitB x L = true) : fitB (castI (rkL x)) L = true ∧ costSum (castI (rkL x)) L ≤ costSum x L ∧ 0 ≤ costSum (castI (rkL x)) L := by
  have hok := hM.ok
  clear hM
  induction L with
  | nil => exact ⟨rfl, Int.le_refl _, Int.le_refl _⟩
  | cons a L ih =>
    simp only [fitB, List.all_cons, Bool.and_eq_true] at hf
    obtain ⟨h1, h2, h3⟩ := ih hf.2 (fun b hb => hok b (by simp [hb]))
    have ha := hok a (by simp)
    obtain ⟨e1, m1⟩ := val_rk (x := x) (i := a.1) (by omega)
    obtain ⟨e2, m2⟩ := val_rk (x := x) (i := a.2.1) (by omega)
    have hlt : val x a.1 < val x a.2.1 := by simpa [fitA] using hf.1
    have r1 := rk_lt m1 hlt
    have r2 := rk_near (x := x) (Int.le_of_lt hlt)
    simp only [fitB] at h1
    refine ⟨by simp only [fitB, List.all_cons, Bool.and_eq_true]; exact ⟨by simp only [fitA, decide_eq_true_eq]; rw [e1, e2]; omega, h1⟩, ?_, ?_⟩
    · simp only [costSum, List.map_cons, List.sum_cons] at h2 ⊢
      have : costA (castI (rkL x)) a ≤ costA x a := by
        unfold costA
        rw [e1, e2]
        exact Int.mul_le_mul_of_nonneg_left r2 ha.2.2.2.2.1
      omega
    · simp only [costSum, List.map_cons, List.sum_cons] at h3 ⊢
      have : 0 ≤ costA (castI (rkL x)) a := by
        unfold costA
        rw [e1, e2]
        exact Int.mul_nonneg ha.2.2.2.2.1 (by omega)
      omega
end Go.Proofs.Ytkloaekmjnbacaa.DagM
