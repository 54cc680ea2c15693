/-
  The text ahead of an edge of a shape: mathematics of printing. Conditions: none.
-/
import Derived.Test.YtgedcalplfnjmaaDoorParX
import Derived.Test.YtgedcalplfnjmaaDoorParO
import Derived.Test.YtgedcalplfnjmaaDoorCompassB
namespace Go.Proofs.YtgedcalplfnjmaaDoor
open Go.RowKit Go.Proofs.YtgedcalplfnjmaaDoor.LexM Go.Proofs.YtgedcalplfnjmaaDoor.ParM

theorem letterS_letD (d : Int) : (letterS d).data.toList = letD d := by
  unfold letterS letD
  repeat' split
  all_goals rfl
def bxC (b : Bool) : UInt8 := if b = true then 98 else 112
theorem fst_len (B : List Bool) : fstL B = [115, 104, 97, 112, 101, 32] ++ (if B.length = 0 then [45] else B.map bxC) := by
  unfold fstL spc spc vtxL
  cases B with
  | nil => rfl
  | cons b B => rfl
theorem map_take (B : List Bool) (k : Nat) (h : k < B.length) : (B.take (k + 1)).map bxC = (B.take k).map bxC ++ [bxC B[k]] := by
  rw [List.take_succ_eq_append_getElem h, List.map_append]; rfl
/-- The text ahead of the k-th edge's line. -/
def prT (B : List Bool) (E : List Edg) (k : Nat) : List UInt8 := glue 10 (fstL B :: (E.take k).map edgL)
theorem prT_zero (B : List Bool) (E : List Edg) : prT B E 0 = fstL B ++ [10] := by simp [prT, glue]
theorem prT_next {B : List Bool} {E : List Edg} {k : Nat} (h : k < E.length) : prT B E (k + 1) = prT B E k ++ (edgL E[k] ++ [10]) := by
  unfold prT
  rw [List.take_succ_eq_append_getElem h, List.map_append, ← List.cons_append]
  exact glue_snoc 10 _ _
theorem prT_last (B : List Bool) (E : List Edg) : prT B E E.length ++ [101, 110, 100, 10] = printS B E := by
  unfold prT printS linL
  rw [List.take_length]
  exact (glue_snoc 10 _ endW).symm
theorem prT_len {B : List Bool} {E : List Edg} (hM : May B E) {k : Nat} (hk : k ≤ E.length) : (prT B E k).length ≤ 90000 := by
  have h : ∀ j, k + j ≤ E.length → (prT B E k).length ≤ (prT B E (k + j)).length := by
    intro j
    induction j with
    | zero => intro _; exact Nat.le_refl _
    | succ j ih =>
      intro hj
      have h1 := ih (by omega)
      rw [← Nat.add_assoc, prT_next (by omega), List.length_append]
      omega
  have h1 := h (E.length - k) (by omega)
  have h3 := congrArg List.length (prT_last B E)
  have h4 := print_len hM
  rw [List.length_append] at h3
  rw [show k + (E.length - k) = E.length by omega] at h1
  omega
theorem bends_mem : ∀ {E : List Edg} {e : Edg}, e ∈ E → e.2.2.2.length ≤ bendsOf E
  | x :: E, e, h => by
    have hbe : bendsOf (x :: E) = x.2.2.2.length + bendsOf E := by simp [bendsOf]
    rcases List.mem_cons.1 h with rfl | h
    · omega
    · have := bends_mem h; omega
end Go.Proofs.YtgedcalplfnjmaaDoor
