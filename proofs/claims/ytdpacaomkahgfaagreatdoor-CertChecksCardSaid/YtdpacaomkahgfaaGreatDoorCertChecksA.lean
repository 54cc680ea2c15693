/-
  CertChecks: its argument opened. Conditions: what Solve is asked to leave; the library's table and errors are laid.
-/
import Derived.Test.YtdpacaomkahgfaaGreatDoorCertChecksW
import Derived.Test.YtdpacaomkahgfaaGreatDoorCtO
namespace Go.Proofs.YtdpacaomkahgfaaGreatDoor
open Go.RowKit Go.ChangeShapes Go.WideShapes Go.Deep Go.Proofs.YtdpacaomkahgfaaGreatDoor.DagM

set_option maxRecDepth 100000 in
theorem checksLaw_arg {H : Type} {enc : TypeId × Value → H} {w : World} {v : Value} {d0 : DataW H} {p : List MemPlace} {spare : Nat → Bool} {held : Bool} {b0 : Nat} (hS : SolveSpec) (hTb : TabE w)
    (hv : Value.okWide Tryz.prog w .any b0 28 v) (h : DataW.Trod enc Tryz.prog w 0 spare held 28 v d0 p) :
    Calls Tryz.prog 3 #[v] w fun e w' => e = .returned (.bool true) ∧ Below w.heap.size w w' := by
  obtain ⟨N, A, len, cap, D, vx, vf, xs, fs, a, b, rfl, h0, h1, hT, hx, hf, k0, k1, k2, k3⟩ := case_open hv h
  obtain ⟨ax, cx, rfl⟩ := hx.form
  obtain ⟨af, cf, rfl⟩ := hf.form
  exact checksLaw hS N A len cap D ax af cx cf xs fs a b w hTb h0 h1 hT hx hf k0 k1 k2 k3
end Go.Proofs.YtdpacaomkahgfaaGreatDoor
