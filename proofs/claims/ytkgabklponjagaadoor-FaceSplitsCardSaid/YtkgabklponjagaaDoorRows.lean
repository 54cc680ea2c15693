/-
  NARROWER THAN 'FOR EVERY INPUT', by the rows' own cells (each row's printed sentence says how): FaceTells: laid · FaceOnce: laid · FaceSums: laid · FaceTurns: laid · FaceSplits: laid.
  DERIVED. THE GIVEN ROWS OF THIS SEAT. 5 by the template 'for every input the law returns true; each argument reads behind the call as it read before'; 0 by the template 'total and deterministic' (their statements: YtkgabklponjagaaDoorTotals.lean).
  GIVEN WITH THE SEED: the statements are not yours to turn. If you find one false, say at which input.
  Laid BY PROGRAM, IN A SANDBOX (cutbox-rows.mjs): the forced cells as the released guide's own fill.sh prints them over the translation d2e27a6bc9abe34e… (all of the seat's roots in one cut). By AI agents, Wed Nov 11 2026. No macro, syntax, notation, axiom, sorry.
-/
import Derived.Test.YtkgabklponjagaaDoorChecked
import GoSem.Claim
import GoSem.ClaimJoined
import GoSem.ClaimMapViews
import Derived.JoinedTies
import Derived.KernelRfl
namespace Go.Proofs.YtkgabklponjagaaDoor
/- THE CELL 'sum', in the pinned program and in every row, IS THE sha256 OF THE DUMP (.gsa) THAT YtkgabklponjagaaDoorProg.lean LOADS. Nothing in Lean hashes anything: it is a label: what it is worth is what the hold of that sum in a sandbox is worth. -/
noncomputable def Tryd.pinned : Pinned := { name := "ytkgabklponjagaadoor", sum := "d2e27a6bc9abe34e57459e12b7960d613c373417540ca5d754fcc8e1353991a8", checked := Tryd.checked }
namespace Rows
def none {H : Type} : Left H := { results := [], args := [] }

/- WHAT THE LISTED PACKAGE-LEVEL VARIABLES READ AS WHEN THE CALL BEGINS. Each datum BY PROGRAM (the guide's laid-datum.mjs) off the statement by which the dump's own 'gosem.cut.vars' lays the variable. In a bare row this is a premise. The card (YtkgabklponjagaaDoorCards.lean) ties it to the program's text. -/
def laid_muntin_face_ways {H : Type} : DataW H := .agg [.lit (.int .i64 1), .lit (.int .i64 0), .lit (.int .i64 (-1)), .lit (.int .i64 (-2))]

/-- 'muntinlaw12.FaceTells': WHATEVER THE INPUT: true; the input reads as it did. -/
def faceTellsSpec : ChangeSpec := { name := "faceTells", fn := fun _ => fun
  | [d1, d2, d3] => { results := [.lit (.bool true)], args := [d1, d2, d3] }
  | _ => none }
def faceTellsRow : OpenClaim := { program := "ytkgabklponjagaadoor", sum := "d2e27a6bc9abe34e57459e12b7960d613c373417540ca5d754fcc8e1353991a8", func := "muntin/muntinlaw12.FaceTells", spec := "faceTells", named := ["muntin/face.ways"], plainKeys := false, apart := false, laid := [("muntin/face.ways", laid_muntin_face_ways)] }
def FaceTellsSaid : Prop := faceTellsRow.holds Tryd.pinned (OpenSpec.ofChange faceTellsSpec)

/-- ITS FALSE NEIGHBOUR: 'it returns false'. Refute it at one input. -/
def faceTellsWrong : ChangeSpec := { name := "faceTells", fn := fun _ => fun
  | [d1, d2, d3] => { results := [.lit (.bool false)], args := [d1, d2, d3] }
  | _ => none }
def FaceTellsWrongFalsely : Prop := faceTellsRow.holds Tryd.pinned (OpenSpec.ofChange faceTellsWrong)

/-- 'muntinlaw12.FaceOnce': WHATEVER THE INPUT: true; the input reads as it did. -/
def faceOnceSpec : ChangeSpec := { name := "faceOnce", fn := fun _ => fun
  | [d] => { results := [.lit (.bool true)], args := [d] }
  | _ => none }
def faceOnceRow : OpenClaim := { program := "ytkgabklponjagaadoor", sum := "d2e27a6bc9abe34e57459e12b7960d613c373417540ca5d754fcc8e1353991a8", func := "muntin/muntinlaw12.FaceOnce", spec := "faceOnce", named := ["muntin/face.ways"], plainKeys := false, apart := false, laid := [("muntin/face.ways", laid_muntin_face_ways)] }
def FaceOnceSaid : Prop := faceOnceRow.holds Tryd.pinned (OpenSpec.ofChange faceOnceSpec)

/-- ITS FALSE NEIGHBOUR: 'it returns false'. Refute it at one input. -/
def faceOnceWrong : ChangeSpec := { name := "faceOnce", fn := fun _ => fun
  | [d] => { results := [.lit (.bool false)], args := [d] }
  | _ => none }
def FaceOnceWrongFalsely : Prop := faceOnceRow.holds Tryd.pinned (OpenSpec.ofChange faceOnceWrong)

/-- 'muntinlaw12.FaceSums': WHATEVER THE INPUT: true; the input reads as it did. -/
def faceSumsSpec : ChangeSpec := { name := "faceSums", fn := fun _ => fun
  | [d] => { results := [.lit (.bool true)], args := [d] }
  | _ => none }
def faceSumsRow : OpenClaim := { program := "ytkgabklponjagaadoor", sum := "d2e27a6bc9abe34e57459e12b7960d613c373417540ca5d754fcc8e1353991a8", func := "muntin/muntinlaw12.FaceSums", spec := "faceSums", named := ["muntin/face.ways"], plainKeys := false, apart := false, laid := [("muntin/face.ways", laid_muntin_face_ways)] }
def FaceSumsSaid : Prop := faceSumsRow.holds Tryd.pinned (OpenSpec.ofChange faceSumsSpec)

/-- ITS FALSE NEIGHBOUR: 'it returns false'. Refute it at one input. -/
def faceSumsWrong : ChangeSpec := { name := "faceSums", fn := fun _ => fun
  | [d] => { results := [.lit (.bool false)], args := [d] }
  | _ => none }
def FaceSumsWrongFalsely : Prop := faceSumsRow.holds Tryd.pinned (OpenSpec.ofChange faceSumsWrong)

/-- 'muntinlaw12.FaceTurns': WHATEVER THE INPUT: true; the input reads as it did. -/
def faceTurnsSpec : ChangeSpec := { name := "faceTurns", fn := fun _ => fun
  | [d1, d2, d3] => { results := [.lit (.bool true)], args := [d1, d2, d3] }
  | _ => none }
def faceTurnsRow : OpenClaim := { program := "ytkgabklponjagaadoor", sum := "d2e27a6bc9abe34e57459e12b7960d613c373417540ca5d754fcc8e1353991a8", func := "muntin/muntinlaw12.FaceTurns", spec := "faceTurns", named := ["muntin/face.ways"], plainKeys := false, apart := false, laid := [("muntin/face.ways", laid_muntin_face_ways)] }
def FaceTurnsSaid : Prop := faceTurnsRow.holds Tryd.pinned (OpenSpec.ofChange faceTurnsSpec)

/-- ITS FALSE NEIGHBOUR: 'it returns false'. Refute it at one input. -/
def faceTurnsWrong : ChangeSpec := { name := "faceTurns", fn := fun _ => fun
  | [d1, d2, d3] => { results := [.lit (.bool false)], args := [d1, d2, d3] }
  | _ => none }
def FaceTurnsWrongFalsely : Prop := faceTurnsRow.holds Tryd.pinned (OpenSpec.ofChange faceTurnsWrong)

/-- 'muntinlaw12.FaceSplits': WHATEVER THE INPUT: true; the input reads as it did. -/
def faceSplitsSpec : ChangeSpec := { name := "faceSplits", fn := fun _ => fun
  | [d1, d2] => { results := [.lit (.bool true)], args := [d1, d2] }
  | _ => none }
def faceSplitsRow : OpenClaim := { program := "ytkgabklponjagaadoor", sum := "d2e27a6bc9abe34e57459e12b7960d613c373417540ca5d754fcc8e1353991a8", func := "muntin/muntinlaw12.FaceSplits", spec := "faceSplits", recurses := true, named := ["muntin/face.ways"], plainKeys := false, apart := false, laid := [("muntin/face.ways", laid_muntin_face_ways)] }
def FaceSplitsSaid : Prop := faceSplitsRow.holds Tryd.pinned (OpenSpec.ofChange faceSplitsSpec)

/-- ITS FALSE NEIGHBOUR: 'it returns false'. Refute it at one input. -/
def faceSplitsWrong : ChangeSpec := { name := "faceSplits", fn := fun _ => fun
  | [d1, d2] => { results := [.lit (.bool false)], args := [d1, d2] }
  | _ => none }
def FaceSplitsWrongFalsely : Prop := faceSplitsRow.holds Tryd.pinned (OpenSpec.ofChange faceSplitsWrong)

/- THE SECOND FORM. 'bulk': how many values and letters a reading holds, each counted each time it is reached (what is shared counts as often as it is met; a slice's spare places count too). A statement '..UptoSaid' is the law's where the arguments, and the package variables that the reading takes, are together of bulk at most 1048576: NARROWER than '..Said'. Prove '..Said' where nothing that the law and all that it calls make is longer than what came in: it says more and counts as full. Else prove '..UptoSaid'. A law counts once. -/
mutual
def uptoBulk {H : Type} : DataW H → Nat
  | .lit (.string bytes) => bytes.length + 1
  | .lit _ => 1
  | .nil => 1
  | .ptr d => uptoBulk d + 1
  | .slice elems spare => uptoBulkAll elems + uptoBulkAll spare + 1
  | .agg parts => uptoBulkAll parts + 1
  | .iface _ d => uptoBulk d + 1
  | .map entries => uptoBulkEntries entries + 1
  | .held _ => 1
def uptoBulkAll {H : Type} : List (DataW H) → Nat
  | [] => 0
  | d :: r => uptoBulk d + uptoBulkAll r
def uptoBulkEntries {H : Type} : List (Lit × DataW H) → Nat
  | [] => 0
  | x :: r => uptoBulkEntry x + uptoBulkEntries r
def uptoBulkEntry {H : Type} : Lit × DataW H → Nat
  | (.string bytes, d) => bytes.length + uptoBulk d + 1
  | (_, d) => uptoBulk d + 1
 end
def uptoSmall : (H : Type) → List (DataW H) → Bool := fun _ ds => decide (uptoBulkAll ds ≤ 1048576)
def OpenSpec.upto (s : _root_.Go.ChangeSpec) : _root_.Go.OpenSpec := { _root_.Go.OpenSpec.ofChange s with cond := some uptoSmall }

/-- 'muntinlaw12.FaceTells', WHERE WHAT IT READS IS OF BULK AT MOST 1048576: true; the input reads as it did. -/
def faceTellsUptoRow : OpenClaim := { program := "ytkgabklponjagaadoor", sum := "d2e27a6bc9abe34e57459e12b7960d613c373417540ca5d754fcc8e1353991a8", func := "muntin/muntinlaw12.FaceTells", spec := "faceTells", named := ["muntin/face.ways"], plainKeys := false, apart := false, laid := [("muntin/face.ways", laid_muntin_face_ways)], narrowed := true }
def FaceTellsUptoSaid : Prop := faceTellsUptoRow.holds Tryd.pinned (OpenSpec.upto faceTellsSpec)

/-- 'muntinlaw12.FaceOnce', WHERE WHAT IT READS IS OF BULK AT MOST 1048576: true; the input reads as it did. -/
def faceOnceUptoRow : OpenClaim := { program := "ytkgabklponjagaadoor", sum := "d2e27a6bc9abe34e57459e12b7960d613c373417540ca5d754fcc8e1353991a8", func := "muntin/muntinlaw12.FaceOnce", spec := "faceOnce", named := ["muntin/face.ways"], plainKeys := false, apart := false, laid := [("muntin/face.ways", laid_muntin_face_ways)], narrowed := true }
def FaceOnceUptoSaid : Prop := faceOnceUptoRow.holds Tryd.pinned (OpenSpec.upto faceOnceSpec)

/-- 'muntinlaw12.FaceSums', WHERE WHAT IT READS IS OF BULK AT MOST 1048576: true; the input reads as it did. -/
def faceSumsUptoRow : OpenClaim := { program := "ytkgabklponjagaadoor", sum := "d2e27a6bc9abe34e57459e12b7960d613c373417540ca5d754fcc8e1353991a8", func := "muntin/muntinlaw12.FaceSums", spec := "faceSums", named := ["muntin/face.ways"], plainKeys := false, apart := false, laid := [("muntin/face.ways", laid_muntin_face_ways)], narrowed := true }
def FaceSumsUptoSaid : Prop := faceSumsUptoRow.holds Tryd.pinned (OpenSpec.upto faceSumsSpec)

/-- 'muntinlaw12.FaceTurns', WHERE WHAT IT READS IS OF BULK AT MOST 1048576: true; the input reads as it did. -/
def faceTurnsUptoRow : OpenClaim := { program := "ytkgabklponjagaadoor", sum := "d2e27a6bc9abe34e57459e12b7960d613c373417540ca5d754fcc8e1353991a8", func := "muntin/muntinlaw12.FaceTurns", spec := "faceTurns", named := ["muntin/face.ways"], plainKeys := false, apart := false, laid := [("muntin/face.ways", laid_muntin_face_ways)], narrowed := true }
def FaceTurnsUptoSaid : Prop := faceTurnsUptoRow.holds Tryd.pinned (OpenSpec.upto faceTurnsSpec)

/-- 'muntinlaw12.FaceSplits', WHERE WHAT IT READS IS OF BULK AT MOST 1048576: true; the input reads as it did. -/
def faceSplitsUptoRow : OpenClaim := { program := "ytkgabklponjagaadoor", sum := "d2e27a6bc9abe34e57459e12b7960d613c373417540ca5d754fcc8e1353991a8", func := "muntin/muntinlaw12.FaceSplits", spec := "faceSplits", recurses := true, named := ["muntin/face.ways"], plainKeys := false, apart := false, laid := [("muntin/face.ways", laid_muntin_face_ways)], narrowed := true }
def FaceSplitsUptoSaid : Prop := faceSplitsUptoRow.holds Tryd.pinned (OpenSpec.upto faceSplitsSpec)

end Rows
end Go.Proofs.YtkgabklponjagaaDoor
