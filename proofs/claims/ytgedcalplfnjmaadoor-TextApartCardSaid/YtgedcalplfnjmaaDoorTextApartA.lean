/-
  TextApart: its arguments opened. Conditions: the library's tables are laid.
-/
import Derived.Test.YtgedcalplfnjmaaDoorTextApartW
namespace Go.Proofs.YtgedcalplfnjmaaDoor
open Go.RowKit Go.ChangeShapes Go.WideShapes Go.Deep Go.Proofs.YtgedcalplfnjmaaDoor.LexM

set_option maxRecDepth 100000 in
theorem apart9_arg {H : Type} {enc : TypeId × Value → H} {w : World} {v v' : Value} {d d' : DataW H} {p p' : List MemPlace} {spare : Nat → Bool} {held : Bool} {b0 b0' : Nat} (hT : TabL w)
    (hv : Value.okWide Tryd.prog w .any b0 38 v) (h : DataW.Trod enc Tryd.prog w 0 spare held 38 v d p)
    (hv' : Value.okWide Tryd.prog w .any b0' 38 v') (h' : DataW.Trod enc Tryd.prog w 0 spare held 38 v' d' p') :
    Calls Tryd.prog 4 #[v, v'] w fun e w' => e = .returned (.bool true) ∧ Below w.heap.size w w' := by
  obtain ⟨bv, B, A, n, cap, D, A2, n2, cap2, D2, rfl, hB, hD, hY⟩ := raw_open8 hv h
  obtain ⟨bv', B', A', n', cap', D', A2', n2', cap2', D2', rfl, hB', hD', hY'⟩ := raw_open8 hv' h'
  exact apart9 bv bv' B B' A n cap D A2 n2 cap2 D2 A' n' cap' D' A2' n2' cap2' D2' w hT hB hD hY hB' hD' hY'
end Go.Proofs.YtgedcalplfnjmaaDoor
