/-
  JoinParts: its arguments opened: places, cells. Conditions: none.
-/
import Derived.Test.YtieffijdhcbcfaaJoinPartsW
namespace Go.Proofs.Ytieffijdhcbcfaa
open Go.RowKit Go.ChangeShapes Go.WideShapes Go.Deep Go.Proofs.Ytieffijdhcbcfaa.GrM

theorem cel_cut13 {w : World} {A : Option Addr} {cap n m : Nat} {L : List Int} (h : CelAt w (.slice A n cap) L n) (hm : m ≤ n) : CelAt w (.slice A m cap) (L.take (m * 8)) m := by
  obtain ⟨hl, A', c', e, hc, hA⟩ := h
  simp only [Value.slice.injEq, true_and] at e
  obtain ⟨rfl, rfl⟩ := e
  refine ⟨by rw [List.length_take]; omega, A, cap, rfl, ⟨by omega, hc.2⟩, fun h0 => ?_⟩
  obtain ⟨b, o, e, hb, hx⟩ := hA (by omega)
  refine ⟨b, o, e, hb, fun j hj => ?_⟩
  rw [hx j (by omega), List.getD_eq_getElem?_getD, List.getD_eq_getElem?_getD, List.getElem?_take, if_pos hj]
set_option maxRecDepth 100000 in
theorem parts13_arg {H : Type} {enc : TypeId × Value → H} {w : World} {v v2 : Value} {d d2 : DataW H} {p p2 : List MemPlace} {spare spare2 : Nat → Bool} {held held2 : Bool} {b0 b2 : Nat}
    (hv : Value.okWide Try.prog w .any b0 25 v) (h : DataW.Trod enc Try.prog w 0 spare held 25 v d p)
    (hv2 : Value.okWide Try.prog w .any b2 26 v2) (h2 : DataW.Trod enc Try.prog w 0 spare2 held2 26 v2 d2 p2) :
    Calls Try.prog 3 #[v, v2] w fun e w' => e = .returned (.bool true) ∧ Below w.heap.size w w' := by
  obtain ⟨A1, A2, A3, n1, n2, n3, k1, k2, k3, D1, D2, D3, rfl, hP⟩ := places_open hv h
  obtain ⟨A, n, cap, rfl, hc, _, _, L, hL⟩ := cells_open hv2 h2
  exact parts13 k1 k2 k3 A n cap (min n 5) (L.take (min n 5 * 8)) w hP (cel_cut13 hL (by omega)) (by omega) (by omega) (by omega)
end Go.Proofs.Ytieffijdhcbcfaa
