/-
  GridSplits: its arguments opened: places, and two bytes. Conditions: none.
-/
import Derived.Test.YtkgknbjcllcndaaGridSplitsW
import Derived.Test.YtkgknbjcllcndaaGdO
namespace Go.Proofs.Ytkgknbjcllcndaa
open Go.RowKit Go.ChangeShapes Go.WideShapes Go.Deep

set_option maxRecDepth 100000 in
theorem splits10_arg {H : Type} {enc : TypeId × Value → H} {w : World} {v v2 : Value} {d d2 : DataW H} {p p2 : List MemPlace} {spare spare2 : Nat → Bool} {held held2 : Bool} {b0 b2 : Nat}
    (hv : Value.okWide Try.prog w .any b0 53 v) (h : DataW.Trod enc Try.prog w 0 spare held 53 v d p)
    (hv2 : Value.okWide Try.prog w .any b2 54 v2) (h2 : DataW.Trod enc Try.prog w 0 spare2 held2 54 v2 d2 p2) :
    Calls Try.prog 5 #[v, v2] w fun e w' => e = .returned (.bool true) ∧ Below w.heap.size w w' := by
  obtain ⟨A1, A2, A3, n1, n2, n3, k1, k2, k3, D1, D2, D3, rfl, hP⟩ := places_open hv h
  obtain ⟨a, b, rfl, ha, hb⟩ := two_open hv2 h2
  exact splits10 k1 k2 k3 a b w hP ha hb
end Go.Proofs.Ytkgknbjcllcndaa
