/-
  CertSolves: its arguments opened. Conditions: what Solve is asked to leave; the library's table and errors are laid.
-/
import Derived.Test.YtdpacaomkahgfaaGreatDoorCertSolvesW
namespace Go.Proofs.YtdpacaomkahgfaaGreatDoor
open Go.RowKit Go.ChangeShapes Go.WideShapes Go.Deep Go.Proofs.YtdpacaomkahgfaaGreatDoor.DagM

set_option maxRecDepth 100000 in
theorem solvesLaw_arg {H : Type} {enc : TypeId × Value → H} {w : World} {v : Value} {d0 : DataW H} {p : List MemPlace} {spare : Nat → Bool} {held : Bool} {b0 : Nat} {d k : Int} (hS : SolveSpec) (hTb : TabE w)
    (hv : Value.okWide Tryz.prog w .any b0 24 v) (h : DataW.Trod enc Tryz.prog w 0 spare held 24 v d0 p) (hd : -32768 ≤ d ∧ d ≤ 32767) (hk : 0 ≤ k ∧ k ≤ 255) :
    Calls Tryz.prog 5 #[v, .int .i16 d, .int .u8 k] w fun e w' => e = .returned (.bool true) ∧ Below w.heap.size w w' := by
  obtain ⟨N, A, len, cap, D, rfl, h0, h1, hT⟩ := raw_open hv h
  exact solvesLaw hS N A len cap D d k w hTb h0 h1 hT hd.1 hd.2 hk.1 hk.2
end Go.Proofs.YtdpacaomkahgfaaGreatDoor
