/-
  NARROWER THAN 'FOR EVERY INPUT', by the rows' own cells (each row's printed sentence says how): CompassTurns: laid · CompassLetters: laid · CompassBetween: laid · CompassRound: laid · CompassSteps: laid.
  DERIVED. THE GIVEN ROWS OF THIS SEAT. 5 by the template 'for every input the law returns true; each argument reads behind the call as it read before'; 0 by the template 'total and deterministic' (their statements: YtnfaebcbcmodmaaDoorTotals.lean).
  GIVEN WITH THE SEED: the statements are not yours to turn. If you find one false, say at which input.
  Laid BY PROGRAM, IN A SANDBOX (cutbox-rows.mjs): the forced cells as the released guide's own fill.sh prints them over the translation 20d303563ae0716f… (all of the seat's roots in one cut). By AI agents, Wed Nov 11 2026. No macro, syntax, notation, axiom, sorry.
-/
import Derived.Test.YtnfaebcbcmodmaaDoorChecked
import GoSem.Claim
import GoSem.ClaimJoined
import GoSem.ClaimMapViews
import Derived.JoinedTies
import Derived.KernelRfl
namespace Go.Proofs.YtnfaebcbcmodmaaDoor
/- THE CELL 'sum', in the pinned program and in every row, IS THE sha256 OF THE DUMP (.gsa) THAT YtnfaebcbcmodmaaDoorProg.lean LOADS. Nothing in Lean hashes anything: it is a label: what it is worth is what the hold of that sum in a sandbox is worth. -/
noncomputable def Tryd.pinned : Pinned := { name := "ytnfaebcbcmodmaadoor", sum := "20d303563ae0716f192463e4b013375cb486b05673aa8ec706726b38f159adce", checked := Tryd.checked }
namespace Rows
def none {H : Type} : Left H := { results := [], args := [] }

/- WHAT THE LISTED PACKAGE-LEVEL VARIABLES READ AS WHEN THE CALL BEGINS. Each datum BY PROGRAM (the guide's laid-datum.mjs) off the statement by which the dump's own 'gosem.cut.vars' lays the variable. In a bare row this is a premise. The card (YtnfaebcbcmodmaaDoorCards.lean) ties it to the program's text. -/
def laid_muntin_compass_turns {H : Type} : DataW H := .agg [.lit (.int .i64 0), .lit (.int .i64 1), .lit (.int .i64 (-2)), .lit (.int .i64 (-1))]
def laid_muntin_compass_steps {H : Type} : DataW H := .agg [.agg [.lit (.int .i64 1), .lit (.int .i64 0)], .agg [.lit (.int .i64 0), .lit (.int .i64 1)], .agg [.lit (.int .i64 (-1)), .lit (.int .i64 0)], .agg [.lit (.int .i64 0), .lit (.int .i64 (-1))]]

/-- 'muntinlaw01.CompassTurns': WHATEVER THE INPUT: true; the input reads as it did. -/
def compassTurnsSpec : ChangeSpec := { name := "compassTurns", fn := fun _ => fun
  | [d1, d2, d3] => { results := [.lit (.bool true)], args := [d1, d2, d3] }
  | _ => none }
def compassTurnsRow : OpenClaim := { program := "ytnfaebcbcmodmaadoor", sum := "20d303563ae0716f192463e4b013375cb486b05673aa8ec706726b38f159adce", func := "muntin/muntinlaw01.CompassTurns", spec := "compassTurns", inPlace := ["internal/bytealg.IndexByteString", "internal/bytealg.IndexString"], named := ["muntin/compass.turns", "internal/bytealg.MaxLen", "muntin/compass.steps"], apart := false, laid := [("muntin/compass.turns", laid_muntin_compass_turns), ("muntin/compass.steps", laid_muntin_compass_steps)] }
def CompassTurnsSaid : Prop := compassTurnsRow.holds Tryd.pinned (OpenSpec.ofChange compassTurnsSpec)

/-- ITS FALSE NEIGHBOUR: 'it returns false'. Refute it at one input. -/
def compassTurnsWrong : ChangeSpec := { name := "compassTurns", fn := fun _ => fun
  | [d1, d2, d3] => { results := [.lit (.bool false)], args := [d1, d2, d3] }
  | _ => none }
def CompassTurnsWrongFalsely : Prop := compassTurnsRow.holds Tryd.pinned (OpenSpec.ofChange compassTurnsWrong)

/-- 'muntinlaw01.CompassLetters': WHATEVER THE INPUT: true; the input reads as it did. -/
def compassLettersSpec : ChangeSpec := { name := "compassLetters", fn := fun _ => fun
  | [d1, d2] => { results := [.lit (.bool true)], args := [d1, d2] }
  | _ => none }
def compassLettersRow : OpenClaim := { program := "ytnfaebcbcmodmaadoor", sum := "20d303563ae0716f192463e4b013375cb486b05673aa8ec706726b38f159adce", func := "muntin/muntinlaw01.CompassLetters", spec := "compassLetters", inPlace := ["internal/bytealg.IndexByteString", "internal/bytealg.IndexString"], named := ["internal/bytealg.MaxLen", "muntin/compass.steps", "muntin/compass.turns"], apart := false, laid := [("muntin/compass.turns", laid_muntin_compass_turns), ("muntin/compass.steps", laid_muntin_compass_steps)] }
def CompassLettersSaid : Prop := compassLettersRow.holds Tryd.pinned (OpenSpec.ofChange compassLettersSpec)

/-- ITS FALSE NEIGHBOUR: 'it returns false'. Refute it at one input. -/
def compassLettersWrong : ChangeSpec := { name := "compassLetters", fn := fun _ => fun
  | [d1, d2] => { results := [.lit (.bool false)], args := [d1, d2] }
  | _ => none }
def CompassLettersWrongFalsely : Prop := compassLettersRow.holds Tryd.pinned (OpenSpec.ofChange compassLettersWrong)

/-- 'muntinlaw01.CompassBetween': WHATEVER THE INPUT: true; the input reads as it did. -/
def compassBetweenSpec : ChangeSpec := { name := "compassBetween", fn := fun _ => fun
  | [d1, d2, d3] => { results := [.lit (.bool true)], args := [d1, d2, d3] }
  | _ => none }
def compassBetweenRow : OpenClaim := { program := "ytnfaebcbcmodmaadoor", sum := "20d303563ae0716f192463e4b013375cb486b05673aa8ec706726b38f159adce", func := "muntin/muntinlaw01.CompassBetween", spec := "compassBetween", inPlace := ["internal/bytealg.IndexByteString", "internal/bytealg.IndexString"], named := ["internal/bytealg.MaxLen", "muntin/compass.turns", "muntin/compass.steps"], apart := false, laid := [("muntin/compass.turns", laid_muntin_compass_turns), ("muntin/compass.steps", laid_muntin_compass_steps)] }
def CompassBetweenSaid : Prop := compassBetweenRow.holds Tryd.pinned (OpenSpec.ofChange compassBetweenSpec)

/-- ITS FALSE NEIGHBOUR: 'it returns false'. Refute it at one input. -/
def compassBetweenWrong : ChangeSpec := { name := "compassBetween", fn := fun _ => fun
  | [d1, d2, d3] => { results := [.lit (.bool false)], args := [d1, d2, d3] }
  | _ => none }
def CompassBetweenWrongFalsely : Prop := compassBetweenRow.holds Tryd.pinned (OpenSpec.ofChange compassBetweenWrong)

/-- 'muntinlaw01.CompassRound': WHATEVER THE INPUT: true; the input reads as it did. -/
def compassRoundSpec : ChangeSpec := { name := "compassRound", fn := fun _ => fun
  | [d1, d2] => { results := [.lit (.bool true)], args := [d1, d2] }
  | _ => none }
def compassRoundRow : OpenClaim := { program := "ytnfaebcbcmodmaadoor", sum := "20d303563ae0716f192463e4b013375cb486b05673aa8ec706726b38f159adce", func := "muntin/muntinlaw01.CompassRound", spec := "compassRound", inPlace := ["internal/bytealg.IndexByteString", "internal/bytealg.IndexString"], named := ["muntin/compass.turns", "internal/bytealg.MaxLen", "muntin/compass.steps"], apart := false, laid := [("muntin/compass.turns", laid_muntin_compass_turns), ("muntin/compass.steps", laid_muntin_compass_steps)] }
def CompassRoundSaid : Prop := compassRoundRow.holds Tryd.pinned (OpenSpec.ofChange compassRoundSpec)

/-- ITS FALSE NEIGHBOUR: 'it returns false'. Refute it at one input. -/
def compassRoundWrong : ChangeSpec := { name := "compassRound", fn := fun _ => fun
  | [d1, d2] => { results := [.lit (.bool false)], args := [d1, d2] }
  | _ => none }
def CompassRoundWrongFalsely : Prop := compassRoundRow.holds Tryd.pinned (OpenSpec.ofChange compassRoundWrong)

/-- 'muntinlaw01.CompassSteps': WHATEVER THE INPUT: true; the input reads as it did. -/
def compassStepsSpec : ChangeSpec := { name := "compassSteps", fn := fun _ => fun
  | [d1, d2] => { results := [.lit (.bool true)], args := [d1, d2] }
  | _ => none }
def compassStepsRow : OpenClaim := { program := "ytnfaebcbcmodmaadoor", sum := "20d303563ae0716f192463e4b013375cb486b05673aa8ec706726b38f159adce", func := "muntin/muntinlaw01.CompassSteps", spec := "compassSteps", inPlace := ["internal/bytealg.IndexByteString", "internal/bytealg.IndexString"], named := ["muntin/compass.steps", "internal/bytealg.MaxLen", "muntin/compass.turns"], apart := false, laid := [("muntin/compass.turns", laid_muntin_compass_turns), ("muntin/compass.steps", laid_muntin_compass_steps)] }
def CompassStepsSaid : Prop := compassStepsRow.holds Tryd.pinned (OpenSpec.ofChange compassStepsSpec)

/-- ITS FALSE NEIGHBOUR: 'it returns false'. Refute it at one input. -/
def compassStepsWrong : ChangeSpec := { name := "compassSteps", fn := fun _ => fun
  | [d1, d2] => { results := [.lit (.bool false)], args := [d1, d2] }
  | _ => none }
def CompassStepsWrongFalsely : Prop := compassStepsRow.holds Tryd.pinned (OpenSpec.ofChange compassStepsWrong)

/- THE SECOND FORM. 'bulk': how many values and letters a reading holds, each counted each time it is reached (what is shared counts as often as it is met; a slice's spare places count too). A statement '..UptoSaid' is the law's where the arguments, and the package variables that the reading takes, are together of bulk at most 1048576: NARROWER than '..Said'. Prove '..Said' where nothing that the law and all that it calls make is longer than what came in: it says more and counts as full. Else prove '..UptoSaid'. A law counts once. -/
mutual
def uptoBulk {H : Type} : DataW H → Nat
  | .lit (.string bytes) => bytes.length + 1
  | .lit _ => 1
  | .nil => 1
  | .ptr d => uptoBulk d + 1
  | .slice elems spare => uptoBulkAll elems + uptoBulkAll spare + 1
  | .agg parts => uptoBulkAll parts + 1
  | .iface _ d => uptoBulk d + 1
  | .map entries => uptoBulkEntries entries + 1
  | .held _ => 1
def uptoBulkAll {H : Type} : List (DataW H) → Nat
  | [] => 0
  | d :: r => uptoBulk d + uptoBulkAll r
def uptoBulkEntries {H : Type} : List (Lit × DataW H) → Nat
  | [] => 0
  | x :: r => uptoBulkEntry x + uptoBulkEntries r
def uptoBulkEntry {H : Type} : Lit × DataW H → Nat
  | (.string bytes, d) => bytes.length + uptoBulk d + 1
  | (_, d) => uptoBulk d + 1
 end
def uptoSmall : (H : Type) → List (DataW H) → Bool := fun _ ds => decide (uptoBulkAll ds ≤ 1048576)
def OpenSpec.upto (s : _root_.Go.ChangeSpec) : _root_.Go.OpenSpec := { _root_.Go.OpenSpec.ofChange s with cond := some uptoSmall }

/-- 'muntinlaw01.CompassTurns', WHERE WHAT IT READS IS OF BULK AT MOST 1048576: true; the input reads as it did. -/
def compassTurnsUptoRow : OpenClaim := { program := "ytnfaebcbcmodmaadoor", sum := "20d303563ae0716f192463e4b013375cb486b05673aa8ec706726b38f159adce", func := "muntin/muntinlaw01.CompassTurns", spec := "compassTurns", inPlace := ["internal/bytealg.IndexByteString", "internal/bytealg.IndexString"], named := ["muntin/compass.turns", "internal/bytealg.MaxLen", "muntin/compass.steps"], apart := false, laid := [("muntin/compass.turns", laid_muntin_compass_turns), ("muntin/compass.steps", laid_muntin_compass_steps)], narrowed := true }
def CompassTurnsUptoSaid : Prop := compassTurnsUptoRow.holds Tryd.pinned (OpenSpec.upto compassTurnsSpec)

/-- 'muntinlaw01.CompassLetters', WHERE WHAT IT READS IS OF BULK AT MOST 1048576: true; the input reads as it did. -/
def compassLettersUptoRow : OpenClaim := { program := "ytnfaebcbcmodmaadoor", sum := "20d303563ae0716f192463e4b013375cb486b05673aa8ec706726b38f159adce", func := "muntin/muntinlaw01.CompassLetters", spec := "compassLetters", inPlace := ["internal/bytealg.IndexByteString", "internal/bytealg.IndexString"], named := ["internal/bytealg.MaxLen", "muntin/compass.steps", "muntin/compass.turns"], apart := false, laid := [("muntin/compass.turns", laid_muntin_compass_turns), ("muntin/compass.steps", laid_muntin_compass_steps)], narrowed := true }
def CompassLettersUptoSaid : Prop := compassLettersUptoRow.holds Tryd.pinned (OpenSpec.upto compassLettersSpec)

/-- 'muntinlaw01.CompassBetween', WHERE WHAT IT READS IS OF BULK AT MOST 1048576: true; the input reads as it did. -/
def compassBetweenUptoRow : OpenClaim := { program := "ytnfaebcbcmodmaadoor", sum := "20d303563ae0716f192463e4b013375cb486b05673aa8ec706726b38f159adce", func := "muntin/muntinlaw01.CompassBetween", spec := "compassBetween", inPlace := ["internal/bytealg.IndexByteString", "internal/bytealg.IndexString"], named := ["internal/bytealg.MaxLen", "muntin/compass.turns", "muntin/compass.steps"], apart := false, laid := [("muntin/compass.turns", laid_muntin_compass_turns), ("muntin/compass.steps", laid_muntin_compass_steps)], narrowed := true }
def CompassBetweenUptoSaid : Prop := compassBetweenUptoRow.holds Tryd.pinned (OpenSpec.upto compassBetweenSpec)

/-- 'muntinlaw01.CompassRound', WHERE WHAT IT READS IS OF BULK AT MOST 1048576: true; the input reads as it did. -/
def compassRoundUptoRow : OpenClaim := { program := "ytnfaebcbcmodmaadoor", sum := "20d303563ae0716f192463e4b013375cb486b05673aa8ec706726b38f159adce", func := "muntin/muntinlaw01.CompassRound", spec := "compassRound", inPlace := ["internal/bytealg.IndexByteString", "internal/bytealg.IndexString"], named := ["muntin/compass.turns", "internal/bytealg.MaxLen", "muntin/compass.steps"], apart := false, laid := [("muntin/compass.turns", laid_muntin_compass_turns), ("muntin/compass.steps", laid_muntin_compass_steps)], narrowed := true }
def CompassRoundUptoSaid : Prop := compassRoundUptoRow.holds Tryd.pinned (OpenSpec.upto compassRoundSpec)

/-- 'muntinlaw01.CompassSteps', WHERE WHAT IT READS IS OF BULK AT MOST 1048576: true; the input reads as it did. -/
def compassStepsUptoRow : OpenClaim := { program := "ytnfaebcbcmodmaadoor", sum := "20d303563ae0716f192463e4b013375cb486b05673aa8ec706726b38f159adce", func := "muntin/muntinlaw01.CompassSteps", spec := "compassSteps", inPlace := ["internal/bytealg.IndexByteString", "internal/bytealg.IndexString"], named := ["muntin/compass.steps", "internal/bytealg.MaxLen", "muntin/compass.turns"], apart := false, laid := [("muntin/compass.turns", laid_muntin_compass_turns), ("muntin/compass.steps", laid_muntin_compass_steps)], narrowed := true }
def CompassStepsUptoSaid : Prop := compassStepsUptoRow.holds Tryd.pinned (OpenSpec.upto compassStepsSpec)

end Rows
end Go.Proofs.YtnfaebcbcmodmaaDoor
