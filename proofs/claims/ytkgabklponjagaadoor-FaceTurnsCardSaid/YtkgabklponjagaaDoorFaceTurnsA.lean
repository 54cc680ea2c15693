/-
  FaceTurns: its arguments opened: places, darts, a number. Conditions: the ways read as the program lays them.
-/
import Derived.Test.YtkgabklponjagaaDoorFaceTurnsW
namespace Go.Proofs.YtkgabklponjagaaDoor
open Go.RowKit Go.ChangeShapes Go.WideShapes Go.Deep

set_option maxRecDepth 100000 in
theorem turns12_arg {H : Type} {enc : TypeId × Value → H} {w : World} {v v2 : Value} {d d2 : DataW H} {p p2 : List MemPlace} {spare spare2 : Nat → Bool} {held held2 : Bool} {b0 b2 : Nat} (hT : WayT w)
    (hv : Value.okWide Tryd.prog w .any b0 25 v) (h : DataW.Trod enc Tryd.prog w 0 spare held 25 v d p)
    (hv2 : Value.okWide Tryd.prog w .any b2 42 v2) (h2 : DataW.Trod enc Tryd.prog w 0 spare2 held2 42 v2 d2 p2) (x : Int) :
    Calls Tryd.prog 6 #[v, v2, .int .i64 x] w fun e w' => e = .returned (.bool true) ∧ Below w.heap.size w w' := by
  obtain ⟨A1, A2, A3, n1, n2, n3, k1, k2, k3, D1, D2, D3, rfl, hP⟩ := places_open hv h
  obtain ⟨A, n, cap, D, rfl, hc, _, hl, hD⟩ := darts_open hv2 h2
  exact turns12 k1 k2 k3 A n cap (min n 20) D x w hP hT hD hl (by omega) (by omega) (by omega)
end Go.Proofs.YtkgabklponjagaaDoor
