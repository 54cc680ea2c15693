/-
  Joins, one behind the other: mathematics; no program stands here. Conditions: none.
-/
import Derived.Test.YtecifgaekefkpaaDoorNmJ
namespace Go.Proofs.YtecifgaekefkpaaDoor.NmM
open Go.Proofs.YtecifgaekefkpaaDoor.LexM Go.Proofs.YtecifgaekefkpaaDoor.ParM Go.Proofs.YtecifgaekefkpaaDoor.GrM

/-- A join: from which cell, in which direction, to which one, whose. -/
abbrev Jn := Int × Int × Int × Int
noncomputable def jn1 (N : Nat) (L : List Int) (j : Jn) : List Int := (joiO L N j.1 j.2.1 j.2.2.1 j.2.2.2).2
noncomputable def jnA (N : Nat) (L : List Int) (J : List Jn) : List Int := J.foldl (jn1 N) L
theorem jnA_nil (N : Nat) (L : List Int) : jnA N L [] = L := rfl
theorem jnA_snoc (N : Nat) (L : List Int) (J : List Jn) (j : Jn) : jnA N L (J ++ [j]) = jn1 N (jnA N L J) j := by unfold jnA; rw [List.foldl_append]; rfl
theorem jnA_app (N : Nat) (L : List Int) (J K : List Jn) : jnA N L (J ++ K) = jnA N (jnA N L J) K := by unfold jnA; rw [List.foldl_append]
theorem jnA_len (N : Nat) (L : List Int) (J : List Jn) : (jnA N L J).length = L.length := by
  unfold jnA
  induction J generalizing L with
  | nil => rfl
  | cons j J ih => rw [List.foldl_cons, ih]; exact joiO_len
/-- Where a side's chain stands behind the first so many ends; its joins. -/
def chA (fr : Int) (l : List Int) : Nat → Int
  | 0 => fr
  | k + 1 => l.getD k 0
def chJ (way fr : Int) (l : List Int) : Nat → List Jn
  | 0 => []
  | k + 1 => chJ way fr l k ++ [(chA fr l k, way, l.getD k 0, -1)]
def sdJ (way fr tq : Int) (l : List Int) : List Jn := chJ way fr l l.length ++ [(chA fr l l.length, way, tq, -1)]
/-- A box's joins: of the first so many sides. -/
def bxJ (c : Nat) (l : Nat → List Int) : Nat → List Jn
  | 0 => []
  | d + 1 => bxJ c l d ++ sdJ (wyC d) (frC c d) (toC c d) (l d)
/-- An edge's joins: the first so many. -/
def egJ (W : List Int) (d0 : Int) (bl : List UInt8) (o : Int) : Nat → List Jn
  | 0 => []
  | k + 1 => egJ W d0 bl o k ++ [(W.getD k 0, lastT d0 (bl.take k), W.getD (k + 1) 0, o)]
/-- A border's numbers. -/
def frN (d : Nat) : Nat := if d = 0 then 1 else if d = 1 then 3 else 0
def toN (d : Nat) : Nat := if d = 0 then 2 else if d = 1 then 2 else if d = 2 then 3 else 1
theorem frN_lt (d : Nat) : frN d < 4 := by unfold frN; split; omega; split <;> omega
theorem toN_lt (d : Nat) : toN d < 4 := by unfold toN; split; omega; split; omega; split <;> omega
theorem frC_n (c d : Nat) : frC c d = ((c + frN d : Nat) : Int) := by unfold frC frN; split; rfl; split; rfl; simp
theorem toC_n (c d : Nat) (hd : d < 4) : toC c d = ((c + toN d : Nat) : Int) := by
  have hc : d = 0 ∨ d = 1 ∨ d = 2 ∨ d = 3 := by omega
  rcases hc with rfl | rfl | rfl | rfl <;> simp [toC, toN]
end Go.Proofs.YtecifgaekefkpaaDoor.NmM
