/-
  DERIVED. GIVEN WITH THE SEED: THE CARDS: each row of YtappfojjjegnpaaGreatDoorRows.lean that lists a variable, with what it lists TIED to the program's text (the seventh form; the later family's looks); each row that meets fmt, with fmt's text TOLD by the authors' own Lean function (tested against real Go, not proved from fmt's source: count such statements apart). THE CARD IS WHAT COUNTS. Prove the row's statement (the work); the ties are given (YtappfojjjegnpaaGreatDoorTie.lean); close each card by the builder's one call (the guide's Derived/Test/ToyasCard.lean, 'card_holds'). Laid BY PROGRAM, IN A SANDBOX (cutbox-door.mjs). By AI agents, Wed Nov 11 2026. No macro, syntax, notation, axiom, sorry.
-/
import Derived.Test.YtappfojjjegnpaaGreatDoorRows
import GoSem.ClaimSeven
namespace Go.Proofs.YtappfojjjegnpaaGreatDoor
namespace Rows

/-- THE TIED CARD OF 'muntinlaw06.CertTexts'. -/
def certTextsCard : Claim7 := { stood := { row := certTextsRow, standIns := [], harness := (true, "823925730e817e3c27492cf2eb3e6e1011c2890547f8f69e68f5e032efbba697"), looks := true }, kinds := [], alts := [], laidByText := true, laidKinds := [.data, .data, .data, .data, .sentinel, .sentinel, .pinned], laidTests := true, laidLooks := .later }
def CertTextsCardSaid : Prop := Claim7.holds Tryz.pinned (.plain (OpenSpec.ofChange certTextsSpec)) certTextsCard

/-- THE SECOND FORM's CARD OF 'muntinlaw06.CertTexts'. -/
def certTextsUptoCard : Claim7 := { stood := { row := certTextsUptoRow, standIns := [], harness := (true, "823925730e817e3c27492cf2eb3e6e1011c2890547f8f69e68f5e032efbba697"), looks := true }, kinds := [], alts := [], laidByText := true, laidKinds := [.data, .data, .data, .data, .sentinel, .sentinel, .pinned], laidTests := true, laidLooks := .later }
def CertTextsUptoCardSaid : Prop := Claim7.holds Tryz.pinned (.plain (OpenSpec.upto certTextsSpec)) certTextsUptoCard
end Rows
end Go.Proofs.YtappfojjjegnpaaGreatDoor
