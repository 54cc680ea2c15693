/-
  LayerLeast: its arguments opened. Conditions: none.
-/
import Derived.Test.YtdapbhnonhamhaaLayLeastW
namespace Go.Proofs.Ytdapbhnonhamhaa
open Go.RowKit Go.ChangeShapes Go.WideShapes Go.Deep Go.Proofs.Ytdapbhnonhamhaa.DagM

set_option maxRecDepth 100000 in
theorem least_arg {H : Type} {enc : TypeId × Value → H} {w : World} {v v' : Value} {d d' : DataW H} {p p' : List MemPlace} {spare spare' : Nat → Bool} {held held' : Bool} {b0 b0' : Nat}
    (hv : Value.okWide Try.prog w .any b0 38 v) (h : DataW.Trod enc Try.prog w 0 spare held 38 v d p)
    (hv' : Value.okWide Try.prog w .any b0' 26 v') (h' : DataW.Trod enc Try.prog w 0 spare' held' 26 v' d' p') :
    Calls Try.prog 5 #[v, v'] w fun e w' => e = .returned (.bool true) ∧ Below w.heap.size w w' := by
  obtain ⟨N, A, len, cap, D, rfl, h0, h1, hT⟩ := raw_open hv h
  obtain ⟨y, hy⟩ := ints_open hv' h'
  exact least N A len cap D v' y w h0 h1 hT hy
end Go.Proofs.Ytdapbhnonhamhaa
