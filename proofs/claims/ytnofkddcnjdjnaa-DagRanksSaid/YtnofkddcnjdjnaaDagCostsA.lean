/-
  DagCosts: its arguments opened. Conditions: none.
-/
import Derived.Test.YtnofkddcnjdjnaaDagCostsW
namespace Go.Proofs.Ytnofkddcnjdjnaa
open Go.RowKit Go.ChangeShapes Go.WideShapes Go.Deep

set_option maxRecDepth 100000 in
theorem costs_arg {H : Type} {enc : TypeId × Value → H} {w : World} {v v' : Value} {d d' : DataW H} {p p' : List MemPlace} {spare spare' : Nat → Bool} {held held' : Bool} {b0 b0' : Nat}
    (hv : Value.okWide Try.prog w .any b0 62 v) (h : DataW.Trod enc Try.prog w 0 spare held 62 v d p)
    (hv' : Value.okWide Try.prog w .any b0' 51 v') (h' : DataW.Trod enc Try.prog w 0 spare' held' 51 v' d' p') :
    Calls Try.prog 5 #[v, v'] w fun e w' => e = .returned (.bool true) ∧ Below w.heap.size w w' := by
  obtain ⟨N, A, len, cap, D, rfl, h0, h1, hT⟩ := raw_open hv h
  obtain ⟨x, hx⟩ := ints_open hv' h'
  exact costs N A len cap D v' x w h0 h1 hT hx
end Go.Proofs.Ytnofkddcnjdjnaa
