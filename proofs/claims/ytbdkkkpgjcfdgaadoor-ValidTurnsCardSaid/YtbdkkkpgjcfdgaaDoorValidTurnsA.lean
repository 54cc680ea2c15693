/-
  ValidTurns: its arguments opened: places, a shape, two bytes. Conditions: the ways read as the program lays them.
-/
import Derived.Test.YtbdkkkpgjcfdgaaDoorValidTurnsW
namespace Go.Proofs.YtbdkkkpgjcfdgaaDoor
open Go.RowKit Go.ChangeShapes Go.WideShapes Go.Deep Go.Proofs.YtbdkkkpgjcfdgaaDoor.GrM Go.Proofs.YtbdkkkpgjcfdgaaDoor.LexM

set_option maxRecDepth 100000 in
theorem turns14_arg {H : Type} {enc : TypeId × Value → H} {w : World} {v v2 v3 : Value} {d d2 d3 : DataW H} {p p2 p3 : List MemPlace} {spare spare2 spare3 : Nat → Bool} {held held2 held3 : Bool} {b0 b2 b3 : Nat} (hT : WayT w)
    (hv : Value.okWide Tryd.prog w .any b0 25 v) (h : DataW.Trod enc Tryd.prog w 0 spare held 25 v d p)
    (hv2 : Value.okWide Tryd.prog w .any b2 29 v2) (h2 : DataW.Trod enc Tryd.prog w 0 spare2 held2 29 v2 d2 p2)
    (hv3 : Value.okWide Tryd.prog w .any b3 58 v3) (h3 : DataW.Trod enc Tryd.prog w 0 spare3 held3 58 v3 d3 p3) :
    Calls Tryd.prog 6 #[v, v2, v3] w fun e w' => e = .returned (.bool true) ∧ Below w.heap.size w w' := by
  obtain ⟨A1, A2, A3, n1, n2, n3, k1, k2, k3, D1, D2, D3, rfl, hP⟩ := places_open hv h
  obtain ⟨bv, B, AX, nX, cX, DX, AY, nY, cY, DY, rfl, hB, hD, hY⟩ := raw_open8 hv2 h2
  obtain ⟨a, b, rfl, ha, hb⟩ := two_open hv3 h3
  obtain ⟨a, rfl⟩ := Int.eq_ofNat_of_zero_le ha.1
  obtain ⟨b, rfl⟩ := Int.eq_ofNat_of_zero_le hb.1
  exact turns14 k1 k2 k3 bv B AX nX cX DX AY nY cY DY a b w hP hT hB hD hY (by omega) (by omega)
end Go.Proofs.YtbdkkkpgjcfdgaaDoor
