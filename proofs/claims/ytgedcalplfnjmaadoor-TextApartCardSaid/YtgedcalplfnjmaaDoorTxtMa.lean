/-
  What is counted along a shape's text: lines, letters of the first line. Conditions: none.
-/
import Derived.Test.YtgedcalplfnjmaaDoorTxtN
namespace Go.Proofs.YtgedcalplfnjmaaDoor.ParM
open Go.Lib Go.Proofs.YtgedcalplfnjmaaDoor.LexM

/-- The letters ahead of the first line feed. -/
def hdT (l : List UInt8) : Nat := (l.takeWhile fun b => !decide (b = 10)).length
theorem hd_feed (l : List UInt8) : hdT (l ++ [10]) = hdT l := by
  unfold hdT
  induction l with
  | nil => rfl
  | cons b t ih =>
    by_cases h : b = 10
    · simp [h]
    · simp [h] at ih ⊢
      exact ih
theorem hd_first {l : List UInt8} {b : UInt8} (hb : b ≠ 10) (h : l.count 10 = 0) : hdT (l ++ [b]) = hdT l + 1 := by
  have hn : (10 : UInt8) ∉ l := List.count_eq_zero.1 h
  have all : ∀ m : List UInt8, (10 : UInt8) ∉ m → hdT m = m.length := by
    intro m
    induction m with
    | nil => intro _; rfl
    | cons c t ih =>
      intro hm
      have hc : c ≠ 10 := fun e => hm (by simp [e])
      have ht := ih (fun e => hm (by simp [e]))
      unfold hdT at ht ⊢
      simp [hc] at ht ⊢
      exact ht
  rw [all l hn, all (l ++ [b]) (by simp; exact ⟨hn, fun e => hb e.symm⟩)]
  simp
theorem hd_later {l : List UInt8} {b : UInt8} (h : l.count 10 ≠ 0) : hdT (l ++ [b]) = hdT l := by
  unfold hdT
  induction l with
  | nil => exact absurd rfl h
  | cons c t ih =>
    by_cases hc : c = 10
    · simp [hc]
    · have h2 : t.count 10 ≠ 0 := by
        intro e
        apply h
        rw [List.count_cons, e]
        simp [hc]
      have := ih h2
      simp [hc] at this ⊢
      exact this
theorem count_feed (l : List UInt8) : (l ++ [10]).count 10 = l.count 10 + 1 := by simp
theorem count_other {l : List UInt8} {b : UInt8} (hb : b ≠ 10) : (l ++ [b]).count 10 = l.count 10 := by
  rw [List.count_append, List.count_singleton]
  simp [hb]
theorem hd_line {p t : List UInt8} (h : (10 : UInt8) ∉ p) : hdT (p ++ 10 :: t) = p.length := by
  induction p with
  | nil => simp [hdT]
  | cons c p ih =>
    have hc : c ≠ 10 := fun e => h (by simp [e])
    have := ih (fun e => h (by simp [e]))
    unfold hdT at this ⊢
    simp [hc] at this ⊢
    exact this
theorem hd_print (B : List Bool) (E : List Edg) : hdT (printS B E) = (fstL B).length := by
  unfold printS linL
  rw [List.cons_append, glue]
  exact hd_line (fstL_free B)
theorem fst_some {B : List Bool} (h : B ≠ []) : (fstL B).length = 6 + B.length := by
  unfold fstL spc spc vtxL
  rw [if_neg h]
  simp [shapeW]; omega
/-- A vertex more, and an edge from it. -/
theorem may_more {B : List Bool} {E : List Edg} (hM : May B E) (h1 : B.length ≤ 4000) (h2 : E.length ≤ 4000) (h3 : bendsOf E ≤ 4000) : May (B ++ [true]) (E ++ [((B.length : Int), 0, 0, [76])]) := by
  refine ⟨by simp; omega, by simp; omega, ?_, ?_⟩
  · have : bendsOf (E ++ [((B.length : Int), 0, 0, [76])]) = bendsOf E + 1 := by simp [bendsOf]
    omega
  · intro e he
    rcases List.mem_append.1 he with he | he
    · obtain ⟨a1, a2, a3, a4, a5, a6, a7⟩ := hM.ok e he
      exact ⟨a1, by rw [List.length_append, List.length_singleton]; omega, a3, by rw [List.length_append, List.length_singleton]; omega, a5, a6, a7⟩
    · obtain rfl := List.mem_singleton.1 he
      refine ⟨by show (0 : Int) ≤ (B.length : Int); omega, by show ((B.length : Int)) < _; rw [List.length_append, List.length_singleton]; omega, Int.le_refl 0, by show (0 : Int) < _; rw [List.length_append, List.length_singleton]; omega, Int.le_refl 0, by show (0 : Int) ≤ 3; omega, rfl⟩
end Go.Proofs.YtgedcalplfnjmaaDoor.ParM
