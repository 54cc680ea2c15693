/-
  The law's arguments: what the reference's Make lays; a list of darts, cut to at most twenty. Conditions: none.
-/
import Derived.Test.YtieffijdhcbcfaaFzO
import Derived.Test.YtieffijdhcbcfaaFcC
namespace Go.Proofs.Ytieffijdhcbcfaa
open Go.RowKit Go.ChangeShapes Go.WideShapes Go.Deep Go.Proofs.Ytieffijdhcbcfaa.GrM

def MkN (m : Nat) (w : World) (e : Ending) (w' : World) : Prop :=
  ∃ (N : Nat) (L : List Int) (A : Option Addr) (c : Nat) (pv : Value), e = .returned (.tuple #[.slice A N c, pv]) ∧ OwnG w' w.heap.size (.slice A N c) L N ∧ GoodG L N ∧ N ≤ m ∧ Below w.heap.size w w'
theorem makeN (m : Nat) (hm : m ≤ 100000) {A1 A2 A3 : Option Addr} {n1 n2 n3 : Nat} (c1 c2 c3 : Nat) {D1 D2 D3 : Nat → Int} {w : World} (h : Plane w A1 A2 A3 n1 n2 n3 D1 D2 D3) :
    Calls Try.prog 7 #[.agg #[.slice A1 n1 c1, .slice A2 n2 c2, .slice A3 n3 c3], .int .i64 m] w (MkN m w) := by
  refine (refMakeG crossed A1 A2 A3 n1 n2 n3 c1 c2 c3 m D1 D2 D3 w h.h1 h.h2 h.h3 h.b1 h.b2 h.b3 hm).mono ?_
  rintro e w' ⟨⟨P, L, lv, pv, t, rfl, o1, o2, ap, mk, hP⟩, b⟩
  obtain ⟨ao, co, rfl⟩ := o1.form
  exact ⟨P.length, L, ao, co, pv, rfl, o1, mk.good, hP, b⟩
/-- A list of darts, cut to at most twenty. -/
def RawD (w : World) (v : Value) : Prop := ∃ A n cap D, v = .slice A n cap ∧ n ≤ cap ∧ n ≤ 9223372036854775807 ∧ D.length = min n 20 ∧ PtsAt w (.slice A (min n 20) cap) D


set_option maxRecDepth 100000 in
theorem cells_open {H : Type} {enc : TypeId × Value → H} {w : World} {v : Value} {d : DataW H} {p : List MemPlace} {spare : Nat → Bool} {held : Bool} {b0 : Nat}
    (hv : Value.okWide Try.prog w .any b0 26 v) (h : DataW.Trod enc Try.prog w 0 spare held 26 v d p) : RawAt w v := by
  obtain ⟨a, n, cap, rfl⟩ := okWide_slice Try.underlying26 hv
  obtain ⟨fuel, hf⟩ := h
  exact cells_cells (v := .slice a n cap) hf
end Go.Proofs.Ytieffijdhcbcfaa
