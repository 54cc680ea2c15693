/-
  GridChecks: its argument opened: a case. Conditions: none.
-/
import Derived.Test.YtkgknbjcllcndaaGridChecksW
namespace Go.Proofs.Ytkgknbjcllcndaa
open Go.RowKit Go.ChangeShapes Go.WideShapes Go.Deep

set_option maxRecDepth 100000 in
theorem checks10_arg {H : Type} {enc : TypeId × Value → H} {w : World} {v : Value} {d : DataW H} {p : List MemPlace} {spare : Nat → Bool} {held : Bool} {b0 : Nat}
    (hv : Value.okWide Try.prog w .any b0 56 v) (h : DataW.Trod enc Try.prog w 0 spare held 56 v d p) :
    Calls Try.prog 4 #[v] w fun e w' => e = .returned (.bool true) ∧ Below w.heap.size w w' := by
  obtain ⟨A1, A2, A3, n1, n2, n3, k1, k2, k3, D1, D2, D3, rv, a, b, x, rfl, hP, hR, ha, hb⟩ := case_open10 hv h
  obtain ⟨AR, nR, cR, rfl, hnc, hn9, _, L, hL⟩ := hR
  exact checks10 k1 k2 k3 AR nR cR a b x w hP ha hb (min nR 6) L hL (by omega) (by omega) (by split <;> omega)
end Go.Proofs.Ytkgknbjcllcndaa
