/-
  GridTurns: its argument opened: a case. Conditions: none.
-/
import Derived.Test.YtkgknbjcllcndaaGridTurnsW
import Derived.Test.YtkgknbjcllcndaaGdO
namespace Go.Proofs.Ytkgknbjcllcndaa
open Go.RowKit Go.ChangeShapes Go.WideShapes Go.Deep

set_option maxRecDepth 100000 in
theorem turns10_arg {H : Type} {enc : TypeId × Value → H} {w : World} {v : Value} {d : DataW H} {p : List MemPlace} {spare : Nat → Bool} {held : Bool} {b0 : Nat}
    (hv : Value.okWide Try.prog w .any b0 56 v) (h : DataW.Trod enc Try.prog w 0 spare held 56 v d p) :
    Calls Try.prog 7 #[v] w fun e w' => e = .returned (.bool true) ∧ Below w.heap.size w w' := by
  obtain ⟨A1, A2, A3, n1, n2, n3, k1, k2, k3, D1, D2, D3, rv, a, b, x, rfl, hP, _, ha, hb⟩ := case_open10 hv h
  exact turns10 k1 k2 k3 rv a b x w hP ha hb
end Go.Proofs.Ytkgknbjcllcndaa
