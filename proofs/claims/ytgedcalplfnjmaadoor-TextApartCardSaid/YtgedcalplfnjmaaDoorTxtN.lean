/-
  A direction by lefts less rights; bends from the last one to the first one: mathematics. Conditions: none.
-/
import Derived.Test.YtgedcalplfnjmaaDoorTxtM
namespace Go.Proofs.YtgedcalplfnjmaaDoor.ParM
open Go.Lib Go.Proofs.YtgedcalplfnjmaaDoor.LexM

def addC (b : UInt8) : Int := if b = 76 then 1 else -1
def sumC (l : List UInt8) : Int := (l.map addC).sum
theorem sumC_snoc (l : List UInt8) (b : UInt8) : sumC (l ++ [b]) = sumC l + addC b := by simp [sumC, List.sum_append]
theorem sumC_sumT : ∀ l : List UInt8, ∃ k : Int, sumT l = sumC l + 4 * k
  | [] => ⟨0, rfl⟩
  | b :: t => by
    obtain ⟨k, hk⟩ := sumC_sumT t
    have e1 : sumT (b :: t) = addT b + sumT t := by simp [sumT]
    have e2 : sumC (b :: t) = addC b + sumC t := by simp [sumC]
    rw [e1, e2, hk]
    unfold addT addC
    by_cases h : b = 76
    · rw [if_pos h, if_pos h]; exact ⟨k, by omega⟩
    · rw [if_neg h, if_neg h]; exact ⟨k + 1, by omega⟩
theorem lastC (d : Int) (l : List UInt8) : (d + sumC l) % 4 = lastT d l := by
  obtain ⟨k, hk⟩ := sumC_sumT l
  unfold lastT
  rw [hk]; omega
theorem sumC_len : ∀ l : List UInt8, -(l.length : Int) ≤ sumC l ∧ sumC l ≤ l.length
  | [] => by simp [sumC]
  | b :: t => by
    have ih := sumC_len t
    have e2 : sumC (b :: t) = addC b + sumC t := by simp [sumC]
    have hb : addC b = 1 ∨ addC b = -1 := by
      unfold addC
      by_cases h : b = 76
      · exact Or.inl (if_pos h)
      · exact Or.inr (if_neg h)
    rw [e2, List.length_cons]
    omega
/-- The direction so far. -/
theorem last_snoc (d : Int) (l : List UInt8) (b : UInt8) : lastT d (l ++ [b]) = (lastT d l + addT b) % 4 := by
  unfold lastT
  rw [sumT_snoc]; omega
theorem lastT_nil {d : Int} (h0 : 0 ≤ d) (h3 : d ≤ 3) : lastT d [] = d := by
  unfold lastT sumT
  simp
  omega
theorem lastT_range (d : Int) (l : List UInt8) : 0 ≤ lastT d l ∧ lastT d l ≤ 3 := by unfold lastT; omega
/-- The bends from the last one down to the i-th one, each the other way. -/
def bkT (l : List UInt8) (i : Nat) : List UInt8 := ((l.drop i).map flipT).reverse
theorem bkT_step {l : List UInt8} {i : Nat} (h : i < l.length) : bkT l i = bkT l (i + 1) ++ [flipT l[i]] := by
  unfold bkT
  rw [List.drop_eq_getElem_cons h, List.map_cons, List.reverse_cons]
theorem bkT_zero (l : List UInt8) : bkT l 0 = backT l := by unfold bkT backT; rw [List.drop_zero]
theorem bkT_end (l : List UInt8) : bkT l l.length = [] := by unfold bkT; rw [List.drop_length]; rfl
theorem bkT_len (l : List UInt8) (i : Nat) : (bkT l i).length = l.length - i := by unfold bkT; simp
end Go.Proofs.YtgedcalplfnjmaaDoor.ParM
