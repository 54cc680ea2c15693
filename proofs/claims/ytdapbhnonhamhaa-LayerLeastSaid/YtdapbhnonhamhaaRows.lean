/-
  No cell of these rows narrows 'for every input' (looked for: loops, veiled, ifaces, maps, wideKeys, modest, calm, conditions, laid).
  DERIVED. THE GIVEN ROWS OF THIS SEAT. 5 by the template 'for every input the law returns true; each argument reads behind the call as it read before'; 0 by the template 'total and deterministic' (their statements: YtdapbhnonhamhaaTotals.lean).
  GIVEN WITH THE SEED: the statements are not yours to turn. If you find one false, say at which input.
  Laid BY PROGRAM, IN A SANDBOX (cutbox-rows.mjs): the forced cells as the released guide's own fill.sh prints them over the translation ed2709ada53df480… (all of the seat's roots in one cut). By AI agents, Wed Nov 11 2026. No macro, syntax, notation, axiom, sorry.
-/
import Derived.Test.YtdapbhnonhamhaaChecked
import GoSem.Claim
import GoSem.ClaimJoined
import GoSem.ClaimMapViews
import Derived.JoinedTies
import Derived.KernelRfl
namespace Go.Proofs.Ytdapbhnonhamhaa
/- THE CELL 'sum', in the pinned program and in every row, IS THE sha256 OF THE DUMP (.gsa) THAT YtdapbhnonhamhaaProg.lean LOADS. Nothing in Lean hashes anything: it is a label: what it is worth is what the hold of that sum in a sandbox is worth. -/
noncomputable def Try.pinned : Pinned := { name := "ytdapbhnonhamhaa", sum := "ed2709ada53df480fb035c946d09e898048f15624372db361484e7559982a34a", checked := Try.checked }
namespace Rows
def none {H : Type} : Left H := { results := [], args := [] }

/-- 'muntinlaw03.DagOrders': WHATEVER THE INPUT: true; the input reads as it did. -/
def dagOrdersSpec : ChangeSpec := { name := "dagOrders", fn := fun _ => fun
  | [d1, d2] => { results := [.lit (.bool true)], args := [d1, d2] }
  | _ => none }
def dagOrdersRow : OpenClaim := { program := "ytdapbhnonhamhaa", sum := "ed2709ada53df480fb035c946d09e898048f15624372db361484e7559982a34a", func := "muntin/muntinlaw03.DagOrders", spec := "dagOrders", unfollowed := true, recurses := true, apart := false }
def DagOrdersSaid : Prop := dagOrdersRow.holds Try.pinned (OpenSpec.ofChange dagOrdersSpec)

/-- ITS FALSE NEIGHBOUR: 'it returns false'. Refute it at one input. -/
def dagOrdersWrong : ChangeSpec := { name := "dagOrders", fn := fun _ => fun
  | [d1, d2] => { results := [.lit (.bool false)], args := [d1, d2] }
  | _ => none }
def DagOrdersWrongFalsely : Prop := dagOrdersRow.holds Try.pinned (OpenSpec.ofChange dagOrdersWrong)

/-- 'muntinlaw04.LayerTells': WHATEVER THE INPUT: true; the input reads as it did. -/
def layerTellsSpec : ChangeSpec := { name := "layerTells", fn := fun _ => fun
  | [d1, d2] => { results := [.lit (.bool true)], args := [d1, d2] }
  | _ => none }
def layerTellsRow : OpenClaim := { program := "ytdapbhnonhamhaa", sum := "ed2709ada53df480fb035c946d09e898048f15624372db361484e7559982a34a", func := "muntin/muntinlaw04.LayerTells", spec := "layerTells", unfollowed := true, recurses := true, apart := false }
def LayerTellsSaid : Prop := layerTellsRow.holds Try.pinned (OpenSpec.ofChange layerTellsSpec)

/-- ITS FALSE NEIGHBOUR: 'it returns false'. Refute it at one input. -/
def layerTellsWrong : ChangeSpec := { name := "layerTells", fn := fun _ => fun
  | [d1, d2] => { results := [.lit (.bool false)], args := [d1, d2] }
  | _ => none }
def LayerTellsWrongFalsely : Prop := layerTellsRow.holds Try.pinned (OpenSpec.ofChange layerTellsWrong)

/-- 'muntinlaw04.LayerLeast': WHATEVER THE INPUT: true; the input reads as it did. -/
def layerLeastSpec : ChangeSpec := { name := "layerLeast", fn := fun _ => fun
  | [d1, d2] => { results := [.lit (.bool true)], args := [d1, d2] }
  | _ => none }
def layerLeastRow : OpenClaim := { program := "ytdapbhnonhamhaa", sum := "ed2709ada53df480fb035c946d09e898048f15624372db361484e7559982a34a", func := "muntin/muntinlaw04.LayerLeast", spec := "layerLeast", unfollowed := true, recurses := true, apart := false }
def LayerLeastSaid : Prop := layerLeastRow.holds Try.pinned (OpenSpec.ofChange layerLeastSpec)

/-- ITS FALSE NEIGHBOUR: 'it returns false'. Refute it at one input. -/
def layerLeastWrong : ChangeSpec := { name := "layerLeast", fn := fun _ => fun
  | [d1, d2] => { results := [.lit (.bool false)], args := [d1, d2] }
  | _ => none }
def LayerLeastWrongFalsely : Prop := layerLeastRow.holds Try.pinned (OpenSpec.ofChange layerLeastWrong)

/-- 'muntinlaw04.LayerTight': WHATEVER THE INPUT: true; the input reads as it did. -/
def layerTightSpec : ChangeSpec := { name := "layerTight", fn := fun _ => fun
  | [d] => { results := [.lit (.bool true)], args := [d] }
  | _ => none }
def layerTightRow : OpenClaim := { program := "ytdapbhnonhamhaa", sum := "ed2709ada53df480fb035c946d09e898048f15624372db361484e7559982a34a", func := "muntin/muntinlaw04.LayerTight", spec := "layerTight", unfollowed := true, recurses := true, apart := false }
def LayerTightSaid : Prop := layerTightRow.holds Try.pinned (OpenSpec.ofChange layerTightSpec)

/-- ITS FALSE NEIGHBOUR: 'it returns false'. Refute it at one input. -/
def layerTightWrong : ChangeSpec := { name := "layerTight", fn := fun _ => fun
  | [d] => { results := [.lit (.bool false)], args := [d] }
  | _ => none }
def LayerTightWrongFalsely : Prop := layerTightRow.holds Try.pinned (OpenSpec.ofChange layerTightWrong)

/-- 'muntinlaw04.LayerMore': WHATEVER THE INPUT: true; the input reads as it did. -/
def layerMoreSpec : ChangeSpec := { name := "layerMore", fn := fun _ => fun
  | [d1, d2] => { results := [.lit (.bool true)], args := [d1, d2] }
  | _ => none }
def layerMoreRow : OpenClaim := { program := "ytdapbhnonhamhaa", sum := "ed2709ada53df480fb035c946d09e898048f15624372db361484e7559982a34a", func := "muntin/muntinlaw04.LayerMore", spec := "layerMore", unfollowed := true, recurses := true, apart := false }
def LayerMoreSaid : Prop := layerMoreRow.holds Try.pinned (OpenSpec.ofChange layerMoreSpec)

/-- ITS FALSE NEIGHBOUR: 'it returns false'. Refute it at one input. -/
def layerMoreWrong : ChangeSpec := { name := "layerMore", fn := fun _ => fun
  | [d1, d2] => { results := [.lit (.bool false)], args := [d1, d2] }
  | _ => none }
def LayerMoreWrongFalsely : Prop := layerMoreRow.holds Try.pinned (OpenSpec.ofChange layerMoreWrong)

/- THE SECOND FORM. 'bulk': how many values and letters a reading holds, each counted each time it is reached (what is shared counts as often as it is met; a slice's spare places count too). A statement '..UptoSaid' is the law's where the arguments, and the package variables that the reading takes, are together of bulk at most 1048576: NARROWER than '..Said'. Prove '..Said' where nothing that the law and all that it calls make is longer than what came in: it says more and counts as full. Else prove '..UptoSaid'. A law counts once. -/
mutual
def uptoBulk {H : Type} : DataW H → Nat
  | .lit (.string bytes) => bytes.length + 1
  | .lit _ => 1
  | .nil => 1
  | .ptr d => uptoBulk d + 1
  | .slice elems spare => uptoBulkAll elems + uptoBulkAll spare + 1
  | .agg parts => uptoBulkAll parts + 1
  | .iface _ d => uptoBulk d + 1
  | .map entries => uptoBulkEntries entries + 1
  | .held _ => 1
def uptoBulkAll {H : Type} : List (DataW H) → Nat
  | [] => 0
  | d :: r => uptoBulk d + uptoBulkAll r
def uptoBulkEntries {H : Type} : List (Lit × DataW H) → Nat
  | [] => 0
  | x :: r => uptoBulkEntry x + uptoBulkEntries r
def uptoBulkEntry {H : Type} : Lit × DataW H → Nat
  | (.string bytes, d) => bytes.length + uptoBulk d + 1
  | (_, d) => uptoBulk d + 1
 end
def uptoSmall : (H : Type) → List (DataW H) → Bool := fun _ ds => decide (uptoBulkAll ds ≤ 1048576)
def OpenSpec.upto (s : _root_.Go.ChangeSpec) : _root_.Go.OpenSpec := { _root_.Go.OpenSpec.ofChange s with cond := some uptoSmall }

/-- 'muntinlaw03.DagOrders', WHERE WHAT IT READS IS OF BULK AT MOST 1048576: true; the input reads as it did. -/
def dagOrdersUptoRow : OpenClaim := { program := "ytdapbhnonhamhaa", sum := "ed2709ada53df480fb035c946d09e898048f15624372db361484e7559982a34a", func := "muntin/muntinlaw03.DagOrders", spec := "dagOrders", unfollowed := true, recurses := true, apart := false, narrowed := true }
def DagOrdersUptoSaid : Prop := dagOrdersUptoRow.holds Try.pinned (OpenSpec.upto dagOrdersSpec)

/-- 'muntinlaw04.LayerTells', WHERE WHAT IT READS IS OF BULK AT MOST 1048576: true; the input reads as it did. -/
def layerTellsUptoRow : OpenClaim := { program := "ytdapbhnonhamhaa", sum := "ed2709ada53df480fb035c946d09e898048f15624372db361484e7559982a34a", func := "muntin/muntinlaw04.LayerTells", spec := "layerTells", unfollowed := true, recurses := true, apart := false, narrowed := true }
def LayerTellsUptoSaid : Prop := layerTellsUptoRow.holds Try.pinned (OpenSpec.upto layerTellsSpec)

/-- 'muntinlaw04.LayerLeast', WHERE WHAT IT READS IS OF BULK AT MOST 1048576: true; the input reads as it did. -/
def layerLeastUptoRow : OpenClaim := { program := "ytdapbhnonhamhaa", sum := "ed2709ada53df480fb035c946d09e898048f15624372db361484e7559982a34a", func := "muntin/muntinlaw04.LayerLeast", spec := "layerLeast", unfollowed := true, recurses := true, apart := false, narrowed := true }
def LayerLeastUptoSaid : Prop := layerLeastUptoRow.holds Try.pinned (OpenSpec.upto layerLeastSpec)

/-- 'muntinlaw04.LayerTight', WHERE WHAT IT READS IS OF BULK AT MOST 1048576: true; the input reads as it did. -/
def layerTightUptoRow : OpenClaim := { program := "ytdapbhnonhamhaa", sum := "ed2709ada53df480fb035c946d09e898048f15624372db361484e7559982a34a", func := "muntin/muntinlaw04.LayerTight", spec := "layerTight", unfollowed := true, recurses := true, apart := false, narrowed := true }
def LayerTightUptoSaid : Prop := layerTightUptoRow.holds Try.pinned (OpenSpec.upto layerTightSpec)

/-- 'muntinlaw04.LayerMore', WHERE WHAT IT READS IS OF BULK AT MOST 1048576: true; the input reads as it did. -/
def layerMoreUptoRow : OpenClaim := { program := "ytdapbhnonhamhaa", sum := "ed2709ada53df480fb035c946d09e898048f15624372db361484e7559982a34a", func := "muntin/muntinlaw04.LayerMore", spec := "layerMore", unfollowed := true, recurses := true, apart := false, narrowed := true }
def LayerMoreUptoSaid : Prop := layerMoreUptoRow.holds Try.pinned (OpenSpec.upto layerMoreSpec)

end Rows
end Go.Proofs.Ytdapbhnonhamhaa
