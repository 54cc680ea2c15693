/-
  FaceSplits: its arguments opened: places, two bytes. Conditions: the ways read as the program lays them.
-/
import Derived.Test.YtkgabklponjagaaDoorFaceSplitsW
namespace Go.Proofs.YtkgabklponjagaaDoor
open Go.RowKit Go.ChangeShapes Go.WideShapes Go.Deep

set_option maxRecDepth 100000 in
theorem splits12_arg {H : Type} {enc : TypeId × Value → H} {w : World} {v v2 : Value} {d d2 : DataW H} {p p2 : List MemPlace} {spare spare2 : Nat → Bool} {held held2 : Bool} {b0 b2 : Nat} (hT : WayT w)
    (hv : Value.okWide Tryd.prog w .any b0 25 v) (h : DataW.Trod enc Tryd.prog w 0 spare held 25 v d p)
    (hv2 : Value.okWide Tryd.prog w .any b2 61 v2) (h2 : DataW.Trod enc Tryd.prog w 0 spare2 held2 61 v2 d2 p2) :
    Calls Tryd.prog 7 #[v, v2] w fun e w' => e = .returned (.bool true) ∧ Below w.heap.size w w' := by
  obtain ⟨A1, A2, A3, n1, n2, n3, k1, k2, k3, D1, D2, D3, rfl, hP⟩ := places_open hv h
  obtain ⟨a, b, rfl, ha, hb⟩ := two_open hv2 h2
  obtain ⟨a, rfl⟩ := Int.eq_ofNat_of_zero_le ha.1
  obtain ⟨b, rfl⟩ := Int.eq_ofNat_of_zero_le hb.1
  exact splits12 k1 k2 k3 a b w hP hT (by omega) (by omega)
end Go.Proofs.YtkgabklponjagaaDoor
