/-
  No cell of these rows narrows 'for every input' (looked for: loops, veiled, ifaces, maps, wideKeys, modest, calm, conditions, laid).
  DERIVED. THE GIVEN ROWS OF THIS SEAT. 4 by the template 'for every input the law returns true; each argument reads behind the call as it read before'; 0 by the template 'total and deterministic' (their statements: YtieffijdhcbcfaaTotals.lean).
  GIVEN WITH THE SEED: the statements are not yours to turn. If you find one false, say at which input.
  Laid BY PROGRAM, IN A SANDBOX (cutbox-rows.mjs): the forced cells as the released guide's own fill.sh prints them over the translation f4ca49eaa1c21ac6… (all of the seat's roots in one cut). By AI agents, Wed Nov 11 2026. No macro, syntax, notation, axiom, sorry.
-/
import Derived.Test.YtieffijdhcbcfaaChecked
import GoSem.Claim
import GoSem.ClaimJoined
import GoSem.ClaimMapViews
import Derived.JoinedTies
import Derived.KernelRfl
namespace Go.Proofs.Ytieffijdhcbcfaa
/- THE CELL 'sum', in the pinned program and in every row, IS THE sha256 OF THE DUMP (.gsa) THAT YtieffijdhcbcfaaProg.lean LOADS. Nothing in Lean hashes anything: it is a label: what it is worth is what the hold of that sum in a sandbox is worth. -/
noncomputable def Try.pinned : Pinned := { name := "ytieffijdhcbcfaa", sum := "f4ca49eaa1c21ac64aacd70f298ec9ee20847474602c96dc8b27991d625d9999", checked := Try.checked }
namespace Rows
def none {H : Type} : Left H := { results := [], args := [] }

/-- 'muntinlaw13.JoinParts': WHATEVER THE INPUT: true; the input reads as it did. -/
def joinPartsSpec : ChangeSpec := { name := "joinParts", fn := fun _ => fun
  | [d1, d2] => { results := [.lit (.bool true)], args := [d1, d2] }
  | _ => none }
def joinPartsRow : OpenClaim := { program := "ytieffijdhcbcfaa", sum := "f4ca49eaa1c21ac64aacd70f298ec9ee20847474602c96dc8b27991d625d9999", func := "muntin/muntinlaw13.JoinParts", spec := "joinParts", recurses := true, apart := false }
def JoinPartsSaid : Prop := joinPartsRow.holds Try.pinned (OpenSpec.ofChange joinPartsSpec)

/-- ITS FALSE NEIGHBOUR: 'it returns false'. Refute it at one input. -/
def joinPartsWrong : ChangeSpec := { name := "joinParts", fn := fun _ => fun
  | [d1, d2] => { results := [.lit (.bool false)], args := [d1, d2] }
  | _ => none }
def JoinPartsWrongFalsely : Prop := joinPartsRow.holds Try.pinned (OpenSpec.ofChange joinPartsWrong)

/-- 'muntinlaw13.JoinPaths': WHATEVER THE INPUT: true; the input reads as it did. -/
def joinPathsSpec : ChangeSpec := { name := "joinPaths", fn := fun _ => fun
  | [d1, d2, d3] => { results := [.lit (.bool true)], args := [d1, d2, d3] }
  | _ => none }
def joinPathsRow : OpenClaim := { program := "ytieffijdhcbcfaa", sum := "f4ca49eaa1c21ac64aacd70f298ec9ee20847474602c96dc8b27991d625d9999", func := "muntin/muntinlaw13.JoinPaths", spec := "joinPaths", recurses := true, apart := false }
def JoinPathsSaid : Prop := joinPathsRow.holds Try.pinned (OpenSpec.ofChange joinPathsSpec)

/-- ITS FALSE NEIGHBOUR: 'it returns false'. Refute it at one input. -/
def joinPathsWrong : ChangeSpec := { name := "joinPaths", fn := fun _ => fun
  | [d1, d2, d3] => { results := [.lit (.bool false)], args := [d1, d2, d3] }
  | _ => none }
def JoinPathsWrongFalsely : Prop := joinPathsRow.holds Try.pinned (OpenSpec.ofChange joinPathsWrong)

/-- 'muntinlaw13.JoinBack': WHATEVER THE INPUT: true; the input reads as it did. -/
def joinBackSpec : ChangeSpec := { name := "joinBack", fn := fun _ => fun
  | [d1, d2] => { results := [.lit (.bool true)], args := [d1, d2] }
  | _ => none }
def joinBackRow : OpenClaim := { program := "ytieffijdhcbcfaa", sum := "f4ca49eaa1c21ac64aacd70f298ec9ee20847474602c96dc8b27991d625d9999", func := "muntin/muntinlaw13.JoinBack", spec := "joinBack", recurses := true, apart := false }
def JoinBackSaid : Prop := joinBackRow.holds Try.pinned (OpenSpec.ofChange joinBackSpec)

/-- ITS FALSE NEIGHBOUR: 'it returns false'. Refute it at one input. -/
def joinBackWrong : ChangeSpec := { name := "joinBack", fn := fun _ => fun
  | [d1, d2] => { results := [.lit (.bool false)], args := [d1, d2] }
  | _ => none }
def JoinBackWrongFalsely : Prop := joinBackRow.holds Try.pinned (OpenSpec.ofChange joinBackWrong)

/-- 'muntinlaw13.JoinTurns': WHATEVER THE INPUT: true; the input reads as it did. -/
def joinTurnsSpec : ChangeSpec := { name := "joinTurns", fn := fun _ => fun
  | [d1, d2] => { results := [.lit (.bool true)], args := [d1, d2] }
  | _ => none }
def joinTurnsRow : OpenClaim := { program := "ytieffijdhcbcfaa", sum := "f4ca49eaa1c21ac64aacd70f298ec9ee20847474602c96dc8b27991d625d9999", func := "muntin/muntinlaw13.JoinTurns", spec := "joinTurns", recurses := true, apart := false }
def JoinTurnsSaid : Prop := joinTurnsRow.holds Try.pinned (OpenSpec.ofChange joinTurnsSpec)

/-- ITS FALSE NEIGHBOUR: 'it returns false'. Refute it at one input. -/
def joinTurnsWrong : ChangeSpec := { name := "joinTurns", fn := fun _ => fun
  | [d1, d2] => { results := [.lit (.bool false)], args := [d1, d2] }
  | _ => none }
def JoinTurnsWrongFalsely : Prop := joinTurnsRow.holds Try.pinned (OpenSpec.ofChange joinTurnsWrong)

/- THE SECOND FORM. 'bulk': how many values and letters a reading holds, each counted each time it is reached (what is shared counts as often as it is met; a slice's spare places count too). A statement '..UptoSaid' is the law's where the arguments, and the package variables that the reading takes, are together of bulk at most 1048576: NARROWER than '..Said'. Prove '..Said' where nothing that the law and all that it calls make is longer than what came in: it says more and counts as full. Else prove '..UptoSaid'. A law counts once. -/
mutual
def uptoBulk {H : Type} : DataW H → Nat
  | .lit (.string bytes) => bytes.length + 1
  | .lit _ => 1
  | .nil => 1
  | .ptr d => uptoBulk d + 1
  | .slice elems spare => uptoBulkAll elems + uptoBulkAll spare + 1
  | .agg parts => uptoBulkAll parts + 1
  | .iface _ d => uptoBulk d + 1
  | .map entries => uptoBulkEntries entries + 1
  | .held _ => 1
def uptoBulkAll {H : Type} : List (DataW H) → Nat
  | [] => 0
  | d :: r => uptoBulk d + uptoBulkAll r
def uptoBulkEntries {H : Type} : List (Lit × DataW H) → Nat
  | [] => 0
  | x :: r => uptoBulkEntry x + uptoBulkEntries r
def uptoBulkEntry {H : Type} : Lit × DataW H → Nat
  | (.string bytes, d) => bytes.length + uptoBulk d + 1
  | (_, d) => uptoBulk d + 1
 end
def uptoSmall : (H : Type) → List (DataW H) → Bool := fun _ ds => decide (uptoBulkAll ds ≤ 1048576)
def OpenSpec.upto (s : _root_.Go.ChangeSpec) : _root_.Go.OpenSpec := { _root_.Go.OpenSpec.ofChange s with cond := some uptoSmall }

/-- 'muntinlaw13.JoinParts', WHERE WHAT IT READS IS OF BULK AT MOST 1048576: true; the input reads as it did. -/
def joinPartsUptoRow : OpenClaim := { program := "ytieffijdhcbcfaa", sum := "f4ca49eaa1c21ac64aacd70f298ec9ee20847474602c96dc8b27991d625d9999", func := "muntin/muntinlaw13.JoinParts", spec := "joinParts", recurses := true, apart := false, narrowed := true }
def JoinPartsUptoSaid : Prop := joinPartsUptoRow.holds Try.pinned (OpenSpec.upto joinPartsSpec)

/-- 'muntinlaw13.JoinPaths', WHERE WHAT IT READS IS OF BULK AT MOST 1048576: true; the input reads as it did. -/
def joinPathsUptoRow : OpenClaim := { program := "ytieffijdhcbcfaa", sum := "f4ca49eaa1c21ac64aacd70f298ec9ee20847474602c96dc8b27991d625d9999", func := "muntin/muntinlaw13.JoinPaths", spec := "joinPaths", recurses := true, apart := false, narrowed := true }
def JoinPathsUptoSaid : Prop := joinPathsUptoRow.holds Try.pinned (OpenSpec.upto joinPathsSpec)

/-- 'muntinlaw13.JoinBack', WHERE WHAT IT READS IS OF BULK AT MOST 1048576: true; the input reads as it did. -/
def joinBackUptoRow : OpenClaim := { program := "ytieffijdhcbcfaa", sum := "f4ca49eaa1c21ac64aacd70f298ec9ee20847474602c96dc8b27991d625d9999", func := "muntin/muntinlaw13.JoinBack", spec := "joinBack", recurses := true, apart := false, narrowed := true }
def JoinBackUptoSaid : Prop := joinBackUptoRow.holds Try.pinned (OpenSpec.upto joinBackSpec)

/-- 'muntinlaw13.JoinTurns', WHERE WHAT IT READS IS OF BULK AT MOST 1048576: true; the input reads as it did. -/
def joinTurnsUptoRow : OpenClaim := { program := "ytieffijdhcbcfaa", sum := "f4ca49eaa1c21ac64aacd70f298ec9ee20847474602c96dc8b27991d625d9999", func := "muntin/muntinlaw13.JoinTurns", spec := "joinTurns", recurses := true, apart := false, narrowed := true }
def JoinTurnsUptoSaid : Prop := joinTurnsUptoRow.holds Try.pinned (OpenSpec.upto joinTurnsSpec)

end Rows
end Go.Proofs.Ytieffijdhcbcfaa
