/-
  No cell of these rows narrows 'for every input' (looked for: loops, veiled, ifaces, maps, wideKeys, modest, calm, conditions, laid).
  DERIVED. THE GIVEN ROWS OF THIS SEAT. 5 by the template 'for every input the law returns true; each argument reads behind the call as it read before'; 0 by the template 'total and deterministic' (their statements: YtkloaekmjnbacaaTotals.lean).
  GIVEN WITH THE SEED: the statements are not yours to turn. If you find one false, say at which input.
  Laid BY PROGRAM, IN A SANDBOX (cutbox-rows.mjs): the forced cells as the released guide's own fill.sh prints them over the translation 93cad1ede42b50c5… (all of the seat's roots in one cut). By AI agents, Wed Nov 11 2026. No macro, syntax, notation, axiom, sorry.
-/
import Derived.Test.YtkloaekmjnbacaaChecked
import GoSem.Claim
import GoSem.ClaimJoined
import GoSem.ClaimMapViews
import Derived.JoinedTies
import Derived.KernelRfl
namespace Go.Proofs.Ytkloaekmjnbacaa
/- THE CELL 'sum', in the pinned program and in every row, IS THE sha256 OF THE DUMP (.gsa) THAT YtkloaekmjnbacaaProg.lean LOADS. Nothing in Lean hashes anything: it is a label: what it is worth is what the hold of that sum in a sandbox is worth. -/
noncomputable def Try.pinned : Pinned := { name := "ytkloaekmjnbacaa", sum := "93cad1ede42b50c53d6b42fb6bc0d8440f81c6976d97ce712bbbb334cba28c02", checked := Try.checked }
namespace Rows
def none {H : Type} : Left H := { results := [], args := [] }

/-- 'muntinlaw05.FlowSolves': WHATEVER THE INPUT: true; the input reads as it did. -/
def flowSolvesSpec : ChangeSpec := { name := "flowSolves", fn := fun _ => fun
  | [d1, d2] => { results := [.lit (.bool true)], args := [d1, d2] }
  | _ => none }
def flowSolvesRow : OpenClaim := { program := "ytkloaekmjnbacaa", sum := "93cad1ede42b50c53d6b42fb6bc0d8440f81c6976d97ce712bbbb334cba28c02", func := "muntin/muntinlaw05.FlowSolves", spec := "flowSolves", unfollowed := true, recurses := true, apart := false }
def FlowSolvesSaid : Prop := flowSolvesRow.holds Try.pinned (OpenSpec.ofChange flowSolvesSpec)

/-- ITS FALSE NEIGHBOUR: 'it returns false'. Refute it at one input. -/
def flowSolvesWrong : ChangeSpec := { name := "flowSolves", fn := fun _ => fun
  | [d1, d2] => { results := [.lit (.bool false)], args := [d1, d2] }
  | _ => none }
def FlowSolvesWrongFalsely : Prop := flowSolvesRow.holds Try.pinned (OpenSpec.ofChange flowSolvesWrong)

/-- 'muntinlaw05.FlowBest': WHATEVER THE INPUT: true; the input reads as it did. -/
def flowBestSpec : ChangeSpec := { name := "flowBest", fn := fun _ => fun
  | [d1, d2] => { results := [.lit (.bool true)], args := [d1, d2] }
  | _ => none }
def flowBestRow : OpenClaim := { program := "ytkloaekmjnbacaa", sum := "93cad1ede42b50c53d6b42fb6bc0d8440f81c6976d97ce712bbbb334cba28c02", func := "muntin/muntinlaw05.FlowBest", spec := "flowBest", unfollowed := true, recurses := true, apart := false }
def FlowBestSaid : Prop := flowBestRow.holds Try.pinned (OpenSpec.ofChange flowBestSpec)

/-- ITS FALSE NEIGHBOUR: 'it returns false'. Refute it at one input. -/
def flowBestWrong : ChangeSpec := { name := "flowBest", fn := fun _ => fun
  | [d1, d2] => { results := [.lit (.bool false)], args := [d1, d2] }
  | _ => none }
def FlowBestWrongFalsely : Prop := flowBestRow.holds Try.pinned (OpenSpec.ofChange flowBestWrong)

/-- 'muntinlaw05.FlowFlows': WHATEVER THE INPUT: true; the input reads as it did. -/
def flowFlowsSpec : ChangeSpec := { name := "flowFlows", fn := fun _ => fun
  | [d1, d2] => { results := [.lit (.bool true)], args := [d1, d2] }
  | _ => none }
def flowFlowsRow : OpenClaim := { program := "ytkloaekmjnbacaa", sum := "93cad1ede42b50c53d6b42fb6bc0d8440f81c6976d97ce712bbbb334cba28c02", func := "muntin/muntinlaw05.FlowFlows", spec := "flowFlows", unfollowed := true, recurses := true, apart := false }
def FlowFlowsSaid : Prop := flowFlowsRow.holds Try.pinned (OpenSpec.ofChange flowFlowsSpec)

/-- ITS FALSE NEIGHBOUR: 'it returns false'. Refute it at one input. -/
def flowFlowsWrong : ChangeSpec := { name := "flowFlows", fn := fun _ => fun
  | [d1, d2] => { results := [.lit (.bool false)], args := [d1, d2] }
  | _ => none }
def FlowFlowsWrongFalsely : Prop := flowFlowsRow.holds Try.pinned (OpenSpec.ofChange flowFlowsWrong)

/-- 'muntinlaw05.FlowScale': WHATEVER THE INPUT: true; the input reads as it did. -/
def flowScaleSpec : ChangeSpec := { name := "flowScale", fn := fun _ => fun
  | [d1, d2, d3] => { results := [.lit (.bool true)], args := [d1, d2, d3] }
  | _ => none }
def flowScaleRow : OpenClaim := { program := "ytkloaekmjnbacaa", sum := "93cad1ede42b50c53d6b42fb6bc0d8440f81c6976d97ce712bbbb334cba28c02", func := "muntin/muntinlaw05.FlowScale", spec := "flowScale", unfollowed := true, recurses := true, apart := false }
def FlowScaleSaid : Prop := flowScaleRow.holds Try.pinned (OpenSpec.ofChange flowScaleSpec)

/-- ITS FALSE NEIGHBOUR: 'it returns false'. Refute it at one input. -/
def flowScaleWrong : ChangeSpec := { name := "flowScale", fn := fun _ => fun
  | [d1, d2, d3] => { results := [.lit (.bool false)], args := [d1, d2, d3] }
  | _ => none }
def FlowScaleWrongFalsely : Prop := flowScaleRow.holds Try.pinned (OpenSpec.ofChange flowScaleWrong)

/-- 'muntinlaw05.FlowTurned': WHATEVER THE INPUT: true; the input reads as it did. -/
def flowTurnedSpec : ChangeSpec := { name := "flowTurned", fn := fun _ => fun
  | [d1, d2] => { results := [.lit (.bool true)], args := [d1, d2] }
  | _ => none }
def flowTurnedRow : OpenClaim := { program := "ytkloaekmjnbacaa", sum := "93cad1ede42b50c53d6b42fb6bc0d8440f81c6976d97ce712bbbb334cba28c02", func := "muntin/muntinlaw05.FlowTurned", spec := "flowTurned", unfollowed := true, recurses := true, apart := false }
def FlowTurnedSaid : Prop := flowTurnedRow.holds Try.pinned (OpenSpec.ofChange flowTurnedSpec)

/-- ITS FALSE NEIGHBOUR: 'it returns false'. Refute it at one input. -/
def flowTurnedWrong : ChangeSpec := { name := "flowTurned", fn := fun _ => fun
  | [d1, d2] => { results := [.lit (.bool false)], args := [d1, d2] }
  | _ => none }
def FlowTurnedWrongFalsely : Prop := flowTurnedRow.holds Try.pinned (OpenSpec.ofChange flowTurnedWrong)

/- THE SECOND FORM. 'bulk': how many values and letters a reading holds, each counted each time it is reached (what is shared counts as often as it is met; a slice's spare places count too). A statement '..UptoSaid' is the law's where the arguments, and the package variables that the reading takes, are together of bulk at most 1048576: NARROWER than '..Said'. Prove '..Said' where nothing that the law and all that it calls make is longer than what came in: it says more and counts as full. Else prove '..UptoSaid'. A law counts once. -/
mutual
def uptoBulk {H : Type} : DataW H → Nat
  | .lit (.string bytes) => bytes.length + 1
  | .lit _ => 1
  | .nil => 1
  | .ptr d => uptoBulk d + 1
  | .slice elems spare => uptoBulkAll elems + uptoBulkAll spare + 1
  | .agg parts => uptoBulkAll parts + 1
  | .iface _ d => uptoBulk d + 1
  | .map entries => uptoBulkEntries entries + 1
  | .held _ => 1
def uptoBulkAll {H : Type} : List (DataW H) → Nat
  | [] => 0
  | d :: r => uptoBulk d + uptoBulkAll r
def uptoBulkEntries {H : Type} : List (Lit × DataW H) → Nat
  | [] => 0
  | x :: r => uptoBulkEntry x + uptoBulkEntries r
def uptoBulkEntry {H : Type} : Lit × DataW H → Nat
  | (.string bytes, d) => bytes.length + uptoBulk d + 1
  | (_, d) => uptoBulk d + 1
 end
def uptoSmall : (H : Type) → List (DataW H) → Bool := fun _ ds => decide (uptoBulkAll ds ≤ 1048576)
def OpenSpec.upto (s : _root_.Go.ChangeSpec) : _root_.Go.OpenSpec := { _root_.Go.OpenSpec.ofChange s with cond := some uptoSmall }

/-- 'muntinlaw05.FlowSolves', WHERE WHAT IT READS IS OF BULK AT MOST 1048576: true; the input reads as it did. -/
def flowSolvesUptoRow : OpenClaim := { program := "ytkloaekmjnbacaa", sum := "93cad1ede42b50c53d6b42fb6bc0d8440f81c6976d97ce712bbbb334cba28c02", func := "muntin/muntinlaw05.FlowSolves", spec := "flowSolves", unfollowed := true, recurses := true, apart := false, narrowed := true }
def FlowSolvesUptoSaid : Prop := flowSolvesUptoRow.holds Try.pinned (OpenSpec.upto flowSolvesSpec)

/-- 'muntinlaw05.FlowBest', WHERE WHAT IT READS IS OF BULK AT MOST 1048576: true; the input reads as it did. -/
def flowBestUptoRow : OpenClaim := { program := "ytkloaekmjnbacaa", sum := "93cad1ede42b50c53d6b42fb6bc0d8440f81c6976d97ce712bbbb334cba28c02", func := "muntin/muntinlaw05.FlowBest", spec := "flowBest", unfollowed := true, recurses := true, apart := false, narrowed := true }
def FlowBestUptoSaid : Prop := flowBestUptoRow.holds Try.pinned (OpenSpec.upto flowBestSpec)

/-- 'muntinlaw05.FlowFlows', WHERE WHAT IT READS IS OF BULK AT MOST 1048576: true; the input reads as it did. -/
def flowFlowsUptoRow : OpenClaim := { program := "ytkloaekmjnbacaa", sum := "93cad1ede42b50c53d6b42fb6bc0d8440f81c6976d97ce712bbbb334cba28c02", func := "muntin/muntinlaw05.FlowFlows", spec := "flowFlows", unfollowed := true, recurses := true, apart := false, narrowed := true }
def FlowFlowsUptoSaid : Prop := flowFlowsUptoRow.holds Try.pinned (OpenSpec.upto flowFlowsSpec)

/-- 'muntinlaw05.FlowScale', WHERE WHAT IT READS IS OF BULK AT MOST 1048576: true; the input reads as it did. -/
def flowScaleUptoRow : OpenClaim := { program := "ytkloaekmjnbacaa", sum := "93cad1ede42b50c53d6b42fb6bc0d8440f81c6976d97ce712bbbb334cba28c02", func := "muntin/muntinlaw05.FlowScale", spec := "flowScale", unfollowed := true, recurses := true, apart := false, narrowed := true }
def FlowScaleUptoSaid : Prop := flowScaleUptoRow.holds Try.pinned (OpenSpec.upto flowScaleSpec)

/-- 'muntinlaw05.FlowTurned', WHERE WHAT IT READS IS OF BULK AT MOST 1048576: true; the input reads as it did. -/
def flowTurnedUptoRow : OpenClaim := { program := "ytkloaekmjnbacaa", sum := "93cad1ede42b50c53d6b42fb6bc0d8440f81c6976d97ce712bbbb334cba28c02", func := "muntin/muntinlaw05.FlowTurned", spec := "flowTurned", unfollowed := true, recurses := true, apart := false, narrowed := true }
def FlowTurnedUptoSaid : Prop := flowTurnedUptoRow.holds Try.pinned (OpenSpec.upto flowTurnedSpec)

end Rows
end Go.Proofs.Ytkloaekmjnbacaa
