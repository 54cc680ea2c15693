/-
  LayerMore: its arguments opened. Conditions: none.
-/
import Derived.Test.YtdapbhnonhamhaaLayMoreW
namespace Go.Proofs.Ytdapbhnonhamhaa
open Go.RowKit Go.ChangeShapes Go.WideShapes Go.Deep Go.Proofs.Ytdapbhnonhamhaa.DagM

set_option maxRecDepth 100000 in
theorem more_arg {H : Type} {enc : TypeId × Value → H} {w : World} {v v' : Value} {d d' : DataW H} {p p' : List MemPlace} {spare spare' : Nat → Bool} {held held' : Bool} {b0 b0' : Nat}
    (hv : Value.okWide Try.prog w .any b0 38 v) (h : DataW.Trod enc Try.prog w 0 spare held 38 v d p)
    (hv' : Value.okWide Try.prog w .any b0' 39 v') (h' : DataW.Trod enc Try.prog w 0 spare' held' 39 v' d' p') :
    Calls Try.prog 7 #[v, v'] w fun e w' => e = .returned (.bool true) ∧ Below w.heap.size w w' := by
  obtain ⟨N, A, len, cap, D, rfl, h0, h1, hT⟩ := raw_open hv h
  obtain ⟨p, q, rfl, h2, h3, h4, h5⟩ := pair_open hv' h'
  exact more N A len cap D p q w h0 h1 hT h2 h3 h4 h5
end Go.Proofs.Ytdapbhnonhamhaa
