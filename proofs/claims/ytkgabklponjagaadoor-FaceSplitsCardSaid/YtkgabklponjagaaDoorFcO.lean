/-
  The law's arguments: what the reference's Make lays; a list of darts, cut to at most twenty. Conditions: none.
-/
import Derived.Test.YtkgabklponjagaaDoorFzO
import Derived.Test.YtkgabklponjagaaDoorFcC
namespace Go.Proofs.YtkgabklponjagaaDoor
open Go.RowKit Go.ChangeShapes Go.WideShapes Go.Deep Go.Proofs.YtkgabklponjagaaDoor.GrM

def MkN (m : Nat) (w : World) (e : Ending) (w' : World) : Prop :=
  ∃ (N : Nat) (L : List Int) (A : Option Addr) (c : Nat) (pv : Value), e = .returned (.tuple #[.slice A N c, pv]) ∧ OwnG w' w.heap.size (.slice A N c) L N ∧ GoodG L N ∧ N ≤ m ∧ Below w.heap.size w w'
theorem makeN (m : Nat) (hm : m ≤ 100000) {A1 A2 A3 : Option Addr} {n1 n2 n3 : Nat} (c1 c2 c3 : Nat) {D1 D2 D3 : Nat → Int} {w : World} (h : Plane w A1 A2 A3 n1 n2 n3 D1 D2 D3) :
    Calls Tryd.prog 8 #[.agg #[.slice A1 n1 c1, .slice A2 n2 c2, .slice A3 n3 c3], .int .i64 m] w (MkN m w) := by
  refine (refMakeG crossed A1 A2 A3 n1 n2 n3 c1 c2 c3 m D1 D2 D3 w h.h1 h.h2 h.h3 h.b1 h.b2 h.b3 hm).mono ?_
  rintro e w' ⟨⟨P, L, lv, pv, t, rfl, o1, o2, ap, mk, hP⟩, b⟩
  obtain ⟨ao, co, rfl⟩ := o1.form
  exact ⟨P.length, L, ao, co, pv, rfl, o1, mk.good, hP, b⟩
/-- A list of darts, cut to at most twenty. -/
def RawD (w : World) (v : Value) : Prop := ∃ A n cap D, v = .slice A n cap ∧ n ≤ cap ∧ n ≤ 9223372036854775807 ∧ D.length = min n 20 ∧ PtsAt w (.slice A (min n 20) cap) D
set_option maxRecDepth 100000 in
theorem darts_cells {H : Type} {enc : TypeId × Value → H} {w : World} {v : Value} {x : DataW H × List MemPlace} {fuel : Nat} {spare : Nat → Bool} {held : Bool}
    (h : DataW.trod enc Tryd.prog w 0 spare held fuel 42 [v] = some x) : RawD w v := by
  rcases rows_of10 Tryd.underlying42 (K := 2) (by kernel_rfl) (by decide) h with ⟨A, cap, rfl, hA⟩ | ⟨b, o, n, cap, rfl, R⟩
  · exact ⟨A, 0, cap, [], rfl, by omega, by omega, rfl, A, cap, rfl, by simp, fun h => absurd h (by simp)⟩
  · have each : ∀ i, i < n → ∃ q : Int × Int, w.cell? ⟨b, o + i * 2, none⟩ = some (.int .i64 q.1) ∧ w.cell? ⟨b, o + i * 2 + 1, none⟩ = some (.int .i64 q.2) := by
      intro i hi
      obtain ⟨cs, hlen, hat, fuel, x, hx⟩ := R.at_ i hi
      match cs, hlen with
      | [c0, c1], _ =>
        obtain ⟨f0, y0, g0⟩ := elem_field Tryd.underlying28 hx 0 _ rfl
        obtain ⟨f1, y1, g1⟩ := elem_field Tryd.underlying28 hx 1 _ rfl
        have h0 : DataW.trod enc Tryd.prog w 0 spare held f0 3 (([c0, c1].drop 0).take (Tryd.prog.cellsOf 3)) = some y0 := g0
        have h1 : DataW.trod enc Tryd.prog w 0 spare held f1 3 (([c0, c1].drop 1).take (Tryd.prog.cellsOf 3)) = some y1 := g1
        rw [cInt] at h0 h1
        obtain ⟨n0, e0, _⟩ := elem_int Tryd.underlying3 h0
        obtain ⟨n1, e1, _⟩ := elem_int Tryd.underlying3 h1
        have e0' : [c0] = [Value.int .i64 n0] := e0
        have e1' : [c1] = [Value.int .i64 n1] := e1
        simp only [List.cons.injEq, and_true] at e0' e1'
        subst e0' e1'
        exact ⟨(n0, n1), hat 0 (by decide), hat 1 (by decide)⟩
    obtain ⟨D, hD⟩ := choose_lt each
    have hm := R.max
    have hl := R.le
    unfold maxLen at hm
    refine ⟨_, n, cap, (List.range (min n 20)).map D, rfl, hl, by omega, by simp, _, cap, by simp, by simp; omega, fun _ => ⟨b, o, rfl, R.lt, fun k hk => ?_⟩⟩
    have hk' : k < min n 20 := by simpa using hk
    have := hD k (by omega)
    simpa [List.getD_eq_getElem?_getD, hk'] using this
set_option maxRecDepth 100000 in
theorem darts_open {H : Type} {enc : TypeId × Value → H} {w : World} {v : Value} {d : DataW H} {p : List MemPlace} {spare : Nat → Bool} {held : Bool} {b0 : Nat}
    (hv : Value.okWide Tryd.prog w .any b0 42 v) (h : DataW.Trod enc Tryd.prog w 0 spare held 42 v d p) : RawD w v := by
  obtain ⟨a, n, cap, rfl⟩ := okWide_slice Tryd.underlying42 hv
  obtain ⟨fuel, hf⟩ := h
  exact darts_cells (v := .slice a n cap) hf
set_option maxRecDepth 100000 in
theorem cells_open {H : Type} {enc : TypeId × Value → H} {w : World} {v : Value} {d : DataW H} {p : List MemPlace} {spare : Nat → Bool} {held : Bool} {b0 : Nat}
    (hv : Value.okWide Tryd.prog w .any b0 26 v) (h : DataW.Trod enc Tryd.prog w 0 spare held 26 v d p) : RawAt w v := by
  obtain ⟨a, n, cap, rfl⟩ := okWide_slice Tryd.underlying26 hv
  obtain ⟨fuel, hf⟩ := h
  exact cells_cells (v := .slice a n cap) hf
end Go.Proofs.YtkgabklponjagaaDoor
