/-
  JoinPaths: its arguments opened: places, two numbers. Conditions: none.
-/
import Derived.Test.YtieffijdhcbcfaaJoinPathsW
namespace Go.Proofs.Ytieffijdhcbcfaa
open Go.RowKit Go.ChangeShapes Go.WideShapes Go.Deep

set_option maxRecDepth 100000 in
theorem paths13_arg {H : Type} {enc : TypeId × Value → H} {w : World} {v : Value} {d : DataW H} {p : List MemPlace} {spare : Nat → Bool} {held : Bool} {b0 : Nat}
    (hv : Value.okWide Try.prog w .any b0 25 v) (h : DataW.Trod enc Try.prog w 0 spare held 25 v d p)
    (x : Int) (hx : (Lit.int .i64 x).wf = true) (y : Int) (hy : (Lit.int .i64 y).wf = true) :
    Calls Try.prog 4 #[v, .int .i64 x, .int .i64 y] w fun e w' => e = .returned (.bool true) ∧ Below w.heap.size w w' := by
  obtain ⟨A1, A2, A3, n1, n2, n3, k1, k2, k3, D1, D2, D3, rfl, hP⟩ := places_open hv h
  exact paths13 k1 k2 k3 x y w hP (wf_n10 hx).2 (wf_n10 hy).2
end Go.Proofs.Ytieffijdhcbcfaa
