/-
  CertTurned: its arguments opened. Conditions: what Solve is asked to leave; the library's table and errors are laid.
-/
import Derived.Test.YtdpacaomkahgfaaGreatDoorCertTurnedW
namespace Go.Proofs.YtdpacaomkahgfaaGreatDoor
open Go.RowKit Go.ChangeShapes Go.WideShapes Go.Deep Go.Proofs.YtdpacaomkahgfaaGreatDoor.DagM

set_option maxRecDepth 100000 in
theorem turnedCert_arg {H : Type} {enc : TypeId × Value → H} {w : World} {v v' : Value} {d d' : DataW H} {p p' : List MemPlace} {spare spare' : Nat → Bool} {held held' : Bool} {b0 b0' : Nat} (hS : SolveSpec) (hTb : TabE w)
    (hv : Value.okWide Tryz.prog w .any b0 24 v) (h : DataW.Trod enc Tryz.prog w 0 spare held 24 v d p)
    (hv' : Value.okWide Tryz.prog w .any b0' 24 v') (h' : DataW.Trod enc Tryz.prog w 0 spare' held' 24 v' d' p') :
    Calls Tryz.prog 7 #[v, v'] w fun e w' => e = .returned (.bool true) ∧ Below w.heap.size w w' := by
  obtain ⟨N, A, len, cap, D, rfl, h0, h1, hT⟩ := raw_open hv h
  obtain ⟨N', A', len', cap', D', rfl, h0', h1', hT'⟩ := raw_open hv' h'
  exact turnedCert hS N A len cap D N' A' len' cap' D' w hTb h0 h1 hT h0' h1' hT'
end Go.Proofs.YtdpacaomkahgfaaGreatDoor
