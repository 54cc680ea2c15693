/-
  addEdge, add: what they answer and leave. Conditions: texts of at most 1500000 bytes.
-/
import Derived.Test.YtgedcalplfnjmaaDoorParD
namespace Go.Proofs.YtgedcalplfnjmaaDoor
open Go.RowKit Go.Proofs.YtgedcalplfnjmaaDoor.LexM Go.Proofs.YtgedcalplfnjmaaDoor.ParM

theorem newsE (w : World) (T : TypeId) (a : Edg) (b : Nat) (hb : w.heap.size = b) : ∀ j z, (encE a)[j]? = some z → (w.alloc (.cells (encE a).toArray T)).cell? ((⟨b, 0, none⟩ : Addr).add j) = some z := by
  intro j z hz
  subst hb
  have e : ((⟨w.heap.size, 0, none⟩ : Addr).add j) = ⟨w.heap.size, j, none⟩ := by
    by_cases hj : j = 0
    · subst hj; rfl
    · simp [Addr.add, hj]
  rw [e]
  simpa using hz
theorem newsEd (w : World) (T : TypeId) (a : Edg) (b : Nat) (hb : w.heap.size = b) : ∀ j z, (encE a)[j]? = some z → (w.alloc (.cells (encE a).toArray T)).drew.cell? ((⟨b, 0, none⟩ : Addr).add j) = some z := fun j z hz => newsE w T a b hb j z hz
theorem OwnE.at_ {w : World} {B n : Nat} {v : Value} {l : List Edg} (h : OwnE w B v l) (e : l.length = n) : w.ownsRow B 23 4 v n (l.flatMap encE) := by subst e; exact h
theorem OwnE.snocAt {w : World} {B n : Nat} {v : Value} {l : List Edg} {a : Edg} (e : l.length = n) (h : w.ownsRow B 23 4 v (n + 1) (l.flatMap encE ++ encE a)) : OwnE w B v (l ++ [a]) := by subst e; exact OwnE.snoc h

section
variable {w0 w w1 W : World} {p x : Nat} {bg en : Bool} {bv ev v' : Value} {B : List Bool} {E : List Edg} {b : Nat} {a : Edg}


end

/-- What addEdge tells of a line. -/
def adE (n : Nat) (l : List UInt8) (E : List Edg) (b : Nat) : Int := if edgE n l ≠ 0 then edgE n l else if 4096 < E.length + 1 ∨ 4096 < b + (edgV n l).2.2.2.length then 6 else 0


end Go.Proofs.YtgedcalplfnjmaaDoor
