/-
  What Solve and Supply are asked to leave. Conditions: none.
-/
import Derived.Test.YtkloaekmjnbacaaFlowC
import Derived.Test.YtkloaekmjnbacaaDagN
namespace Go.Proofs.Ytkloaekmjnbacaa
open Go.RowKit Go.Proofs.Ytkloaekmjnbacaa.DagM

def SolveOk (n : Nat) (L : List Arc) (w : World) (e : Ending) (w' : World) : Prop :=
  ∃ xv fv x f ways, e = .returned (.tuple #[.agg #[xv, fv, .int .i64 ways], .int .i64 0]) ∧ OwnI w' w.heap.size xv x ∧ OwnI w' w.heap.size fv f ∧ SolvedF n L x f ways ∧ Below w.heap.size w w'
def SolveNo (n : Int) (L : List Arc) (w : World) (e : Ending) (w' : World) : Prop :=
  e = .returned (.tuple #[.agg #[.slice none 0 0, .slice none 0 0, .int .i64 0], .int .i64 (ordErr n L)]) ∧ Below w.heap.size w w'
structure SolveSpec : Prop where
  ok : ∀ (n : Nat) (v : Value) (L : List Arc) (w : World), ArcsAt w v L → ordErr n L = 0 → Calls Try.prog 9 #[.int .i64 n, v] w (SolveOk n L w)
  no : ∀ (n : Int) (v : Value) (L : List Arc) (w : World), ArcsAt w v L → ordErr n L ≠ 0 → Calls Try.prog 9 #[.int .i64 n, v] w (SolveNo n L w)
def SuppOk (n : Nat) (L : List Arc) (w : World) (e : Ending) (w' : World) : Prop := ∃ v, e = .returned v ∧ OwnI w' w.heap.size v ((List.range n).map fun (u : Nat) => supF L u) ∧ Below w.heap.size w w'
structure SupplySpec : Prop where
  ok : ∀ (n : Nat) (v : Value) (L : List Arc) (w : World), ArcsAt w v L → May n L → Calls Try.prog 15 #[.int .i64 n, v] w (SuppOk n L w)
  no : ∀ (n : Int) (v : Value) (L : List Arc) (w : World), ArcsAt w v L → ¬ May n L → Calls Try.prog 15 #[.int .i64 n, v] w fun e w' => e = .returned (.slice none 0 0) ∧ Below w.heap.size w w'
end Go.Proofs.Ytkloaekmjnbacaa
