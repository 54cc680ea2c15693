/-
  FaceTells: its arguments opened: places, cells, a dart. Conditions: the ways read as the program lays them.
-/
import Derived.Test.YtkgabklponjagaaDoorFaceTellsW
namespace Go.Proofs.YtkgabklponjagaaDoor
open Go.RowKit Go.ChangeShapes Go.WideShapes Go.Deep Go.Proofs.YtkgabklponjagaaDoor.GrM

theorem cel_cut {w : World} {A : Option Addr} {cap n m : Nat} {L : List Int} (h : CelAt w (.slice A n cap) L n) (hm : m ≤ n) : CelAt w (.slice A m cap) (L.take (m * 8)) m := by
  obtain ⟨hl, A', c', e, hc, hA⟩ := h
  simp only [Value.slice.injEq, true_and] at e
  obtain ⟨rfl, rfl⟩ := e
  refine ⟨by rw [List.length_take]; omega, A, cap, rfl, ⟨by omega, hc.2⟩, fun h0 => ?_⟩
  obtain ⟨b, o, e, hb, hx⟩ := hA (by omega)
  refine ⟨b, o, e, hb, fun j hj => ?_⟩
  rw [hx j (by omega), List.getD_eq_getElem?_getD, List.getD_eq_getElem?_getD, List.getElem?_take, if_pos hj]
set_option maxRecDepth 100000 in
theorem dart_open {H : Type} {enc : TypeId × Value → H} {w : World} {v : Value} {d : DataW H} {p : List MemPlace} {spare : Nat → Bool} {held : Bool} {b0 : Nat}
    (hv : Value.okWide Tryd.prog w .any b0 28 v) (h : DataW.Trod enc Tryd.prog w 0 spare held 28 v d p) :
    ∃ x y : Int, v = .agg #[.int .i64 x, .int .i64 y] ∧ x ≤ 9223372036854775807 ∧ y ≤ 9223372036854775807 := by
  obtain ⟨cs, rfl, hsz⟩ := okWide_struct Tryd.underlying28 hv
  have hc2 : Tryd.prog.cellsOf 28 = 2 := by kernel_rfl
  rw [hc2] at hsz
  obtain ⟨l⟩ := cs
  match l, hsz with
  | [c0, c1], _ =>
    obtain ⟨fuel, hf⟩ := h
    obtain ⟨f0, y0, g0⟩ := elem_field Tryd.underlying28 hf 0 _ rfl
    obtain ⟨f1, y1, g1⟩ := elem_field Tryd.underlying28 hf 1 _ rfl
    have h0 : DataW.trod enc Tryd.prog w 0 spare held f0 3 (([c0, c1].drop 0).take (Tryd.prog.cellsOf 3)) = some y0 := g0
    have h1 : DataW.trod enc Tryd.prog w 0 spare held f1 3 (([c0, c1].drop 1).take (Tryd.prog.cellsOf 3)) = some y1 := g1
    rw [cInt] at h0 h1
    obtain ⟨n0, e0, q0⟩ := elem_int Tryd.underlying3 h0
    obtain ⟨n1, e1, q1⟩ := elem_int Tryd.underlying3 h1
    have e0' : [c0] = [Value.int .i64 n0] := e0
    have e1' : [c1] = [Value.int .i64 n1] := e1
    simp only [List.cons.injEq, and_true] at e0' e1'
    subst e0' e1'
    exact ⟨n0, n1, rfl, (wf_n10 q0).2, (wf_n10 q1).2⟩
set_option maxRecDepth 100000 in
theorem tells12_arg {H : Type} {enc : TypeId × Value → H} {w : World} {v v2 v3 : Value} {d d2 d3 : DataW H} {p p2 p3 : List MemPlace} {spare spare2 spare3 : Nat → Bool} {held held2 held3 : Bool} {b0 b2 b3 : Nat} (hT : WayT w)
    (hv : Value.okWide Tryd.prog w .any b0 25 v) (h : DataW.Trod enc Tryd.prog w 0 spare held 25 v d p)
    (hv2 : Value.okWide Tryd.prog w .any b2 26 v2) (h2 : DataW.Trod enc Tryd.prog w 0 spare2 held2 26 v2 d2 p2)
    (hv3 : Value.okWide Tryd.prog w .any b3 28 v3) (h3 : DataW.Trod enc Tryd.prog w 0 spare3 held3 28 v3 d3 p3) :
    Calls Tryd.prog 3 #[v, v2, v3] w fun e w' => e = .returned (.bool true) ∧ Below w.heap.size w w' := by
  obtain ⟨A1, A2, A3, n1, n2, n3, k1, k2, k3, D1, D2, D3, rfl, hP⟩ := places_open hv h
  obtain ⟨A, n, cap, rfl, hc, _, _, L, hL⟩ := cells_open hv2 h2
  obtain ⟨x, y, rfl, hx, hy⟩ := dart_open hv3 h3
  exact tells12 k1 k2 k3 A n cap (min n 5) (L.take (min n 5 * 8)) x y w hP hT (cel_cut hL (by omega)) (by omega) (by omega) (by omega) hx hy
end Go.Proofs.YtkgabklponjagaaDoor
