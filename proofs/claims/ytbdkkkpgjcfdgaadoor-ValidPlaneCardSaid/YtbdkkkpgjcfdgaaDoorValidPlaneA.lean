/-
  ValidPlane: its argument opened: places. Conditions: the ways read as the program lays them.
-/
import Derived.Test.YtbdkkkpgjcfdgaaDoorValidPlaneW
namespace Go.Proofs.YtbdkkkpgjcfdgaaDoor
open Go.RowKit Go.ChangeShapes Go.WideShapes Go.Deep

set_option maxRecDepth 100000 in
theorem plane14_arg {H : Type} {enc : TypeId × Value → H} {w : World} {v : Value} {d : DataW H} {p : List MemPlace} {spare : Nat → Bool} {held : Bool} {b0 : Nat} (hT : WayT w)
    (hv : Value.okWide Tryd.prog w .any b0 25 v) (h : DataW.Trod enc Tryd.prog w 0 spare held 25 v d p) :
    Calls Tryd.prog 4 #[v] w fun e w' => e = .returned (.bool true) ∧ Below w.heap.size w w' := by
  obtain ⟨A1, A2, A3, n1, n2, n3, k1, k2, k3, D1, D2, D3, rfl, hP⟩ := places_open hv h
  exact plane14 k1 k2 k3 w hP hT
end Go.Proofs.YtbdkkkpgjcfdgaaDoor
