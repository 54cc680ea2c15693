/-
  ValidEuler: its arguments opened: places, a shape. Conditions: the ways read as the program lays them.
-/
import Derived.Test.YtbdkkkpgjcfdgaaDoorValidEulerW
namespace Go.Proofs.YtbdkkkpgjcfdgaaDoor
open Go.RowKit Go.ChangeShapes Go.WideShapes Go.Deep Go.Proofs.YtbdkkkpgjcfdgaaDoor.GrM Go.Proofs.YtbdkkkpgjcfdgaaDoor.LexM

set_option maxRecDepth 100000 in
theorem euler14_arg {H : Type} {enc : TypeId × Value → H} {w : World} {v v2 : Value} {d d2 : DataW H} {p p2 : List MemPlace} {spare spare2 : Nat → Bool} {held held2 : Bool} {b0 b2 : Nat} (hT : WayT w)
    (hv : Value.okWide Tryd.prog w .any b0 25 v) (h : DataW.Trod enc Tryd.prog w 0 spare held 25 v d p)
    (hv2 : Value.okWide Tryd.prog w .any b2 29 v2) (h2 : DataW.Trod enc Tryd.prog w 0 spare2 held2 29 v2 d2 p2) :
    Calls Tryd.prog 5 #[v, v2] w fun e w' => e = .returned (.bool true) ∧ Below w.heap.size w w' := by
  obtain ⟨A1, A2, A3, n1, n2, n3, k1, k2, k3, D1, D2, D3, rfl, hP⟩ := places_open hv h
  obtain ⟨bv, B, AX, nX, cX, DX, AY, nY, cY, DY, rfl, hB, hD, hY⟩ := raw_open8 hv2 h2
  exact euler14 k1 k2 k3 bv B AX nX cX DX AY nY cY DY w hP hT hB hD hY
end Go.Proofs.YtbdkkkpgjcfdgaaDoor
