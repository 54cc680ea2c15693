/-
  No cell of these rows narrows 'for every input' (looked for: loops, veiled, ifaces, maps, wideKeys, modest, calm, conditions, laid).
  DERIVED. THE GIVEN ROWS OF THIS SEAT. 3 by the template 'for every input the law returns true; each argument reads behind the call as it read before'; 0 by the template 'total and deterministic' (their statements: YtkakeakdgidigaaTotals.lean).
  GIVEN WITH THE SEED: the statements are not yours to turn. If you find one false, say at which input.
  Laid BY PROGRAM, IN A SANDBOX (cutbox-rows.mjs): the forced cells as the released guide's own fill.sh prints them over the translation dc29c8ba3c2d2692… (all of the seat's roots in one cut). By AI agents, Wed Nov 11 2026. No macro, syntax, notation, axiom, sorry.
-/
import Derived.Test.YtkakeakdgidigaaChecked
import GoSem.Claim
import GoSem.ClaimJoined
import GoSem.ClaimMapViews
import Derived.JoinedTies
import Derived.KernelRfl
namespace Go.Proofs.Ytkakeakdgidigaa
/- THE CELL 'sum', in the pinned program and in every row, IS THE sha256 OF THE DUMP (.gsa) THAT YtkakeakdgidigaaProg.lean LOADS. Nothing in Lean hashes anything: it is a label: what it is worth is what the hold of that sum in a sandbox is worth. -/
noncomputable def Try.pinned : Pinned := { name := "ytkakeakdgidigaa", sum := "dc29c8ba3c2d26922449c3a112c12a2fa5834fb659a3c03a54f0fef6c7ecdaa9", checked := Try.checked }
namespace Rows
def none {H : Type} : Left H := { results := [], args := [] }

/-- 'muntinlaw15.KittyTells': WHATEVER THE INPUT: true; the input reads as it did. -/
def kittyTellsSpec : ChangeSpec := { name := "kittyTells", fn := fun _ => fun
  | [d1, d2, d3] => { results := [.lit (.bool true)], args := [d1, d2, d3] }
  | _ => none }
def kittyTellsRow : OpenClaim := { program := "ytkakeakdgidigaa", sum := "dc29c8ba3c2d26922449c3a112c12a2fa5834fb659a3c03a54f0fef6c7ecdaa9", func := "muntin/muntinlaw15.KittyTells", spec := "kittyTells", unfollowed := true, recurses := true, apart := false }
def KittyTellsSaid : Prop := kittyTellsRow.holds Try.pinned (OpenSpec.ofChange kittyTellsSpec)

/-- ITS FALSE NEIGHBOUR: 'it returns false'. Refute it at one input. -/
def kittyTellsWrong : ChangeSpec := { name := "kittyTells", fn := fun _ => fun
  | [d1, d2, d3] => { results := [.lit (.bool false)], args := [d1, d2, d3] }
  | _ => none }
def KittyTellsWrongFalsely : Prop := kittyTellsRow.holds Try.pinned (OpenSpec.ofChange kittyTellsWrong)

/-- 'muntinlaw15.KittyRound': WHATEVER THE INPUT: true; the input reads as it did. -/
def kittyRoundSpec : ChangeSpec := { name := "kittyRound", fn := fun _ => fun
  | [d] => { results := [.lit (.bool true)], args := [d] }
  | _ => none }
def kittyRoundRow : OpenClaim := { program := "ytkakeakdgidigaa", sum := "dc29c8ba3c2d26922449c3a112c12a2fa5834fb659a3c03a54f0fef6c7ecdaa9", func := "muntin/muntinlaw15.KittyRound", spec := "kittyRound", unfollowed := true, recurses := true, apart := false }
def KittyRoundSaid : Prop := kittyRoundRow.holds Try.pinned (OpenSpec.ofChange kittyRoundSpec)

/-- ITS FALSE NEIGHBOUR: 'it returns false'. Refute it at one input. -/
def kittyRoundWrong : ChangeSpec := { name := "kittyRound", fn := fun _ => fun
  | [d] => { results := [.lit (.bool false)], args := [d] }
  | _ => none }
def KittyRoundWrongFalsely : Prop := kittyRoundRow.holds Try.pinned (OpenSpec.ofChange kittyRoundWrong)

/-- 'muntinlaw15.KittyTurns': WHATEVER THE INPUT: true; the input reads as it did. -/
def kittyTurnsSpec : ChangeSpec := { name := "kittyTurns", fn := fun _ => fun
  | [d1, d2, d3] => { results := [.lit (.bool true)], args := [d1, d2, d3] }
  | _ => none }
def kittyTurnsRow : OpenClaim := { program := "ytkakeakdgidigaa", sum := "dc29c8ba3c2d26922449c3a112c12a2fa5834fb659a3c03a54f0fef6c7ecdaa9", func := "muntin/muntinlaw15.KittyTurns", spec := "kittyTurns", unfollowed := true, recurses := true, apart := false }
def KittyTurnsSaid : Prop := kittyTurnsRow.holds Try.pinned (OpenSpec.ofChange kittyTurnsSpec)

/-- ITS FALSE NEIGHBOUR: 'it returns false'. Refute it at one input. -/
def kittyTurnsWrong : ChangeSpec := { name := "kittyTurns", fn := fun _ => fun
  | [d1, d2, d3] => { results := [.lit (.bool false)], args := [d1, d2, d3] }
  | _ => none }
def KittyTurnsWrongFalsely : Prop := kittyTurnsRow.holds Try.pinned (OpenSpec.ofChange kittyTurnsWrong)

/- THE SECOND FORM. 'bulk': how many values and letters a reading holds, each counted each time it is reached (what is shared counts as often as it is met; a slice's spare places count too). A statement '..UptoSaid' is the law's where the arguments, and the package variables that the reading takes, are together of bulk at most 1048576: NARROWER than '..Said'. Prove '..Said' where nothing that the law and all that it calls make is longer than what came in: it says more and counts as full. Else prove '..UptoSaid'. A law counts once. -/
mutual
def uptoBulk {H : Type} : DataW H → Nat
  | .lit (.string bytes) => bytes.length + 1
  | .lit _ => 1
  | .nil => 1
  | .ptr d => uptoBulk d + 1
  | .slice elems spare => uptoBulkAll elems + uptoBulkAll spare + 1
  | .agg parts => uptoBulkAll parts + 1
  | .iface _ d => uptoBulk d + 1
  | .map entries => uptoBulkEntries entries + 1
  | .held _ => 1
def uptoBulkAll {H : Type} : List (DataW H) → Nat
  | [] => 0
  | d :: r => uptoBulk d + uptoBulkAll r
def uptoBulkEntries {H : Type} : List (Lit × DataW H) → Nat
  | [] => 0
  | x :: r => uptoBulkEntry x + uptoBulkEntries r
def uptoBulkEntry {H : Type} : Lit × DataW H → Nat
  | (.string bytes, d) => bytes.length + uptoBulk d + 1
  | (_, d) => uptoBulk d + 1
 end
def uptoSmall : (H : Type) → List (DataW H) → Bool := fun _ ds => decide (uptoBulkAll ds ≤ 1048576)
def OpenSpec.upto (s : _root_.Go.ChangeSpec) : _root_.Go.OpenSpec := { _root_.Go.OpenSpec.ofChange s with cond := some uptoSmall }

/-- 'muntinlaw15.KittyTells', WHERE WHAT IT READS IS OF BULK AT MOST 1048576: true; the input reads as it did. -/
def kittyTellsUptoRow : OpenClaim := { program := "ytkakeakdgidigaa", sum := "dc29c8ba3c2d26922449c3a112c12a2fa5834fb659a3c03a54f0fef6c7ecdaa9", func := "muntin/muntinlaw15.KittyTells", spec := "kittyTells", unfollowed := true, recurses := true, apart := false, narrowed := true }
def KittyTellsUptoSaid : Prop := kittyTellsUptoRow.holds Try.pinned (OpenSpec.upto kittyTellsSpec)

/-- 'muntinlaw15.KittyRound', WHERE WHAT IT READS IS OF BULK AT MOST 1048576: true; the input reads as it did. -/
def kittyRoundUptoRow : OpenClaim := { program := "ytkakeakdgidigaa", sum := "dc29c8ba3c2d26922449c3a112c12a2fa5834fb659a3c03a54f0fef6c7ecdaa9", func := "muntin/muntinlaw15.KittyRound", spec := "kittyRound", unfollowed := true, recurses := true, apart := false, narrowed := true }
def KittyRoundUptoSaid : Prop := kittyRoundUptoRow.holds Try.pinned (OpenSpec.upto kittyRoundSpec)

/-- 'muntinlaw15.KittyTurns', WHERE WHAT IT READS IS OF BULK AT MOST 1048576: true; the input reads as it did. -/
def kittyTurnsUptoRow : OpenClaim := { program := "ytkakeakdgidigaa", sum := "dc29c8ba3c2d26922449c3a112c12a2fa5834fb659a3c03a54f0fef6c7ecdaa9", func := "muntin/muntinlaw15.KittyTurns", spec := "kittyTurns", unfollowed := true, recurses := true, apart := false, narrowed := true }
def KittyTurnsUptoSaid : Prop := kittyTurnsUptoRow.holds Try.pinned (OpenSpec.upto kittyTurnsSpec)

end Rows
end Go.Proofs.Ytkakeakdgidigaa
