/-
  NARROWER THAN 'FOR EVERY INPUT', by the rows' own cells (each row's printed sentence says how): ValidTells: laid · ValidPlane: laid · ValidEuler: laid · ValidTurns: laid.
  DERIVED. THE GIVEN ROWS OF THIS SEAT. 4 by the template 'for every input the law returns true; each argument reads behind the call as it read before'; 0 by the template 'total and deterministic' (their statements: YtbdkkkpgjcfdgaaDoorTotals.lean).
  GIVEN WITH THE SEED: the statements are not yours to turn. If you find one false, say at which input.
  Laid BY PROGRAM, IN A SANDBOX (cutbox-rows.mjs): the forced cells as the released guide's own fill.sh prints them over the translation 7ac701a9773b13bc… (all of the seat's roots in one cut). By AI agents, Wed Nov 11 2026. No macro, syntax, notation, axiom, sorry.
-/
import Derived.Test.YtbdkkkpgjcfdgaaDoorChecked
import GoSem.Claim
import GoSem.ClaimJoined
import GoSem.ClaimMapViews
import Derived.JoinedTies
import Derived.KernelRfl
namespace Go.Proofs.YtbdkkkpgjcfdgaaDoor
/- THE CELL 'sum', in the pinned program and in every row, IS THE sha256 OF THE DUMP (.gsa) THAT YtbdkkkpgjcfdgaaDoorProg.lean LOADS. Nothing in Lean hashes anything: it is a label: what it is worth is what the hold of that sum in a sandbox is worth. -/
noncomputable def Tryd.pinned : Pinned := { name := "ytbdkkkpgjcfdgaadoor", sum := "7ac701a9773b13bcd44a59ab55fb6f02109cd1c41e824af2c02e7f546cd05453", checked := Tryd.checked }
namespace Rows
def none {H : Type} : Left H := { results := [], args := [] }

/- WHAT THE LISTED PACKAGE-LEVEL VARIABLES READ AS WHEN THE CALL BEGINS. Each datum BY PROGRAM (the guide's laid-datum.mjs) off the statement by which the dump's own 'gosem.cut.vars' lays the variable. In a bare row this is a premise. The card (YtbdkkkpgjcfdgaaDoorCards.lean) ties it to the program's text. -/
def laid_muntin_face_ways {H : Type} : DataW H := .agg [.lit (.int .i64 1), .lit (.int .i64 0), .lit (.int .i64 (-1)), .lit (.int .i64 (-2))]

/-- 'muntinlaw14.ValidTells': WHATEVER THE INPUT: true; the input reads as it did. -/
def validTellsSpec : ChangeSpec := { name := "validTells", fn := fun _ => fun
  | [d1, d2, d3] => { results := [.lit (.bool true)], args := [d1, d2, d3] }
  | _ => none }
def validTellsRow : OpenClaim := { program := "ytbdkkkpgjcfdgaadoor", sum := "7ac701a9773b13bcd44a59ab55fb6f02109cd1c41e824af2c02e7f546cd05453", func := "muntin/muntinlaw14.ValidTells", spec := "validTells", recurses := true, named := ["muntin/face.ways"], plainKeys := false, apart := false, laid := [("muntin/face.ways", laid_muntin_face_ways)] }
def ValidTellsSaid : Prop := validTellsRow.holds Tryd.pinned (OpenSpec.ofChange validTellsSpec)

/-- ITS FALSE NEIGHBOUR: 'it returns false'. Refute it at one input. -/
def validTellsWrong : ChangeSpec := { name := "validTells", fn := fun _ => fun
  | [d1, d2, d3] => { results := [.lit (.bool false)], args := [d1, d2, d3] }
  | _ => none }
def ValidTellsWrongFalsely : Prop := validTellsRow.holds Tryd.pinned (OpenSpec.ofChange validTellsWrong)

/-- 'muntinlaw14.ValidPlane': WHATEVER THE INPUT: true; the input reads as it did. -/
def validPlaneSpec : ChangeSpec := { name := "validPlane", fn := fun _ => fun
  | [d] => { results := [.lit (.bool true)], args := [d] }
  | _ => none }
def validPlaneRow : OpenClaim := { program := "ytbdkkkpgjcfdgaadoor", sum := "7ac701a9773b13bcd44a59ab55fb6f02109cd1c41e824af2c02e7f546cd05453", func := "muntin/muntinlaw14.ValidPlane", spec := "validPlane", recurses := true, named := ["muntin/face.ways"], plainKeys := false, apart := false, laid := [("muntin/face.ways", laid_muntin_face_ways)] }
def ValidPlaneSaid : Prop := validPlaneRow.holds Tryd.pinned (OpenSpec.ofChange validPlaneSpec)

/-- ITS FALSE NEIGHBOUR: 'it returns false'. Refute it at one input. -/
def validPlaneWrong : ChangeSpec := { name := "validPlane", fn := fun _ => fun
  | [d] => { results := [.lit (.bool false)], args := [d] }
  | _ => none }
def ValidPlaneWrongFalsely : Prop := validPlaneRow.holds Tryd.pinned (OpenSpec.ofChange validPlaneWrong)

/-- 'muntinlaw14.ValidEuler': WHATEVER THE INPUT: true; the input reads as it did. -/
def validEulerSpec : ChangeSpec := { name := "validEuler", fn := fun _ => fun
  | [d1, d2] => { results := [.lit (.bool true)], args := [d1, d2] }
  | _ => none }
def validEulerRow : OpenClaim := { program := "ytbdkkkpgjcfdgaadoor", sum := "7ac701a9773b13bcd44a59ab55fb6f02109cd1c41e824af2c02e7f546cd05453", func := "muntin/muntinlaw14.ValidEuler", spec := "validEuler", recurses := true, named := ["muntin/face.ways"], plainKeys := false, apart := false, laid := [("muntin/face.ways", laid_muntin_face_ways)] }
def ValidEulerSaid : Prop := validEulerRow.holds Tryd.pinned (OpenSpec.ofChange validEulerSpec)

/-- ITS FALSE NEIGHBOUR: 'it returns false'. Refute it at one input. -/
def validEulerWrong : ChangeSpec := { name := "validEuler", fn := fun _ => fun
  | [d1, d2] => { results := [.lit (.bool false)], args := [d1, d2] }
  | _ => none }
def ValidEulerWrongFalsely : Prop := validEulerRow.holds Tryd.pinned (OpenSpec.ofChange validEulerWrong)

/-- 'muntinlaw14.ValidTurns': WHATEVER THE INPUT: true; the input reads as it did. -/
def validTurnsSpec : ChangeSpec := { name := "validTurns", fn := fun _ => fun
  | [d1, d2, d3] => { results := [.lit (.bool true)], args := [d1, d2, d3] }
  | _ => none }
def validTurnsRow : OpenClaim := { program := "ytbdkkkpgjcfdgaadoor", sum := "7ac701a9773b13bcd44a59ab55fb6f02109cd1c41e824af2c02e7f546cd05453", func := "muntin/muntinlaw14.ValidTurns", spec := "validTurns", recurses := true, named := ["muntin/face.ways"], plainKeys := false, apart := false, laid := [("muntin/face.ways", laid_muntin_face_ways)] }
def ValidTurnsSaid : Prop := validTurnsRow.holds Tryd.pinned (OpenSpec.ofChange validTurnsSpec)

/-- ITS FALSE NEIGHBOUR: 'it returns false'. Refute it at one input. -/
def validTurnsWrong : ChangeSpec := { name := "validTurns", fn := fun _ => fun
  | [d1, d2, d3] => { results := [.lit (.bool false)], args := [d1, d2, d3] }
  | _ => none }
def ValidTurnsWrongFalsely : Prop := validTurnsRow.holds Tryd.pinned (OpenSpec.ofChange validTurnsWrong)

/- THE SECOND FORM. 'bulk': how many values and letters a reading holds, each counted each time it is reached (what is shared counts as often as it is met; a slice's spare places count too). A statement '..UptoSaid' is the law's where the arguments, and the package variables that the reading takes, are together of bulk at most 1048576: NARROWER than '..Said'. Prove '..Said' where nothing that the law and all that it calls make is longer than what came in: it says more and counts as full. Else prove '..UptoSaid'. A law counts once. -/
mutual
def uptoBulk {H : Type} : DataW H → Nat
  | .lit (.string bytes) => bytes.length + 1
  | .lit _ => 1
  | .nil => 1
  | .ptr d => uptoBulk d + 1
  | .slice elems spare => uptoBulkAll elems + uptoBulkAll spare + 1
  | .agg parts => uptoBulkAll parts + 1
  | .iface _ d => uptoBulk d + 1
  | .map entries => uptoBulkEntries entries + 1
  | .held _ => 1
def uptoBulkAll {H : Type} : List (DataW H) → Nat
  | [] => 0
  | d :: r => uptoBulk d + uptoBulkAll r
def uptoBulkEntries {H : Type} : List (Lit × DataW H) → Nat
  | [] => 0
  | x :: r => uptoBulkEntry x + uptoBulkEntries r
def uptoBulkEntry {H : Type} : Lit × DataW H → Nat
  | (.string bytes, d) => bytes.length + uptoBulk d + 1
  | (_, d) => uptoBulk d + 1
 end
def uptoSmall : (H : Type) → List (DataW H) → Bool := fun _ ds => decide (uptoBulkAll ds ≤ 1048576)
def OpenSpec.upto (s : _root_.Go.ChangeSpec) : _root_.Go.OpenSpec := { _root_.Go.OpenSpec.ofChange s with cond := some uptoSmall }

/-- 'muntinlaw14.ValidTells', WHERE WHAT IT READS IS OF BULK AT MOST 1048576: true; the input reads as it did. -/
def validTellsUptoRow : OpenClaim := { program := "ytbdkkkpgjcfdgaadoor", sum := "7ac701a9773b13bcd44a59ab55fb6f02109cd1c41e824af2c02e7f546cd05453", func := "muntin/muntinlaw14.ValidTells", spec := "validTells", recurses := true, named := ["muntin/face.ways"], plainKeys := false, apart := false, laid := [("muntin/face.ways", laid_muntin_face_ways)], narrowed := true }
def ValidTellsUptoSaid : Prop := validTellsUptoRow.holds Tryd.pinned (OpenSpec.upto validTellsSpec)

/-- 'muntinlaw14.ValidPlane', WHERE WHAT IT READS IS OF BULK AT MOST 1048576: true; the input reads as it did. -/
def validPlaneUptoRow : OpenClaim := { program := "ytbdkkkpgjcfdgaadoor", sum := "7ac701a9773b13bcd44a59ab55fb6f02109cd1c41e824af2c02e7f546cd05453", func := "muntin/muntinlaw14.ValidPlane", spec := "validPlane", recurses := true, named := ["muntin/face.ways"], plainKeys := false, apart := false, laid := [("muntin/face.ways", laid_muntin_face_ways)], narrowed := true }
def ValidPlaneUptoSaid : Prop := validPlaneUptoRow.holds Tryd.pinned (OpenSpec.upto validPlaneSpec)

/-- 'muntinlaw14.ValidEuler', WHERE WHAT IT READS IS OF BULK AT MOST 1048576: true; the input reads as it did. -/
def validEulerUptoRow : OpenClaim := { program := "ytbdkkkpgjcfdgaadoor", sum := "7ac701a9773b13bcd44a59ab55fb6f02109cd1c41e824af2c02e7f546cd05453", func := "muntin/muntinlaw14.ValidEuler", spec := "validEuler", recurses := true, named := ["muntin/face.ways"], plainKeys := false, apart := false, laid := [("muntin/face.ways", laid_muntin_face_ways)], narrowed := true }
def ValidEulerUptoSaid : Prop := validEulerUptoRow.holds Tryd.pinned (OpenSpec.upto validEulerSpec)

/-- 'muntinlaw14.ValidTurns', WHERE WHAT IT READS IS OF BULK AT MOST 1048576: true; the input reads as it did. -/
def validTurnsUptoRow : OpenClaim := { program := "ytbdkkkpgjcfdgaadoor", sum := "7ac701a9773b13bcd44a59ab55fb6f02109cd1c41e824af2c02e7f546cd05453", func := "muntin/muntinlaw14.ValidTurns", spec := "validTurns", recurses := true, named := ["muntin/face.ways"], plainKeys := false, apart := false, laid := [("muntin/face.ways", laid_muntin_face_ways)], narrowed := true }
def ValidTurnsUptoSaid : Prop := validTurnsUptoRow.holds Tryd.pinned (OpenSpec.upto validTurnsSpec)

end Rows
end Go.Proofs.YtbdkkkpgjcfdgaaDoor
