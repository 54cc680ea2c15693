/-
  KittyRegular: its arguments opened: places, cells. Conditions: the ways read as the program lays them.
-/
import Derived.Test.YtkakeakdgidigaaDoorKittyRegularW
namespace Go.Proofs.YtkakeakdgidigaaDoor
open Go.RowKit Go.ChangeShapes Go.WideShapes Go.Deep Go.Proofs.YtkakeakdgidigaaDoor.GrM

theorem cel_cutK {w : World} {A : Option Addr} {cap n m : Nat} {L : List Int} (h : CelAt w (.slice A n cap) L n) (hm : m ≤ n) : CelAt w (.slice A m cap) (L.take (m * 8)) m := by
  obtain ⟨hl, A', c', e, hc, hA⟩ := h
  simp only [Value.slice.injEq, true_and] at e
  obtain ⟨rfl, rfl⟩ := e
  refine ⟨by rw [List.length_take]; omega, A, cap, rfl, ⟨by omega, hc.2⟩, fun h0 => ?_⟩
  obtain ⟨b, o, e, hb, hx⟩ := hA (by omega)
  refine ⟨b, o, e, hb, fun j hj => ?_⟩
  rw [hx j (by omega), List.getD_eq_getElem?_getD, List.getD_eq_getElem?_getD, List.getElem?_take, if_pos hj]
set_option maxRecDepth 100000 in
theorem regular15_arg {H : Type} {enc : TypeId × Value → H} {w : World} {v v3 : Value} {d d3 : DataW H} {p p3 : List MemPlace} {spare spare3 : Nat → Bool} {held held3 : Bool} {b0 b3 : Nat} (hT : WayT w)
    (hv : Value.okWide Tryd.prog w .any b0 25 v) (h : DataW.Trod enc Tryd.prog w 0 spare held 25 v d p)
    (hv3 : Value.okWide Tryd.prog w .any b3 26 v3) (h3 : DataW.Trod enc Tryd.prog w 0 spare3 held3 26 v3 d3 p3) :
    Calls Tryd.prog 3 #[v, v3] w fun e w' => e = .returned (.bool true) ∧ Below w.heap.size w w' := by
  obtain ⟨A1, A2, A3, n1, n2, n3, k1, k2, k3, D1, D2, D3, rfl, hP⟩ := places_open hv h
  obtain ⟨A, n, cap, rfl, hc, _, _, L, hL⟩ := cells_open hv3 h3
  exact regular15 k1 k2 k3 A n cap (min n 4) (L.take (min n 4 * 8)) w hP hT (cel_cutK hL (by omega)) (by omega) (by omega) (by omega)
end Go.Proofs.YtkakeakdgidigaaDoor
