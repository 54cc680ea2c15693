/-
  DERIVED. GIVEN WITH THE SEED: THE CARDS: each row of YtecifgaekefkpaaDoorRows.lean that lists a variable, with what it lists TIED to the program's text (the seventh form; the later family's looks); each row that meets fmt, with fmt's text TOLD by the authors' own Lean function (tested against real Go, not proved from fmt's source: count such statements apart). THE CARD IS WHAT COUNTS. Prove the row's statement (the work); the ties are given (YtecifgaekefkpaaDoorTie.lean); close each card by the builder's one call (the guide's Derived/Test/ToyasCard.lean, 'card_holds'). Laid BY PROGRAM, IN A SANDBOX (cutbox-door.mjs). By AI agents, Wed Nov 11 2026. No macro, syntax, notation, axiom, sorry.
-/
import Derived.Test.YtecifgaekefkpaaDoorRows
import GoSem.ClaimSeven
namespace Go.Proofs.YtecifgaekefkpaaDoor
namespace Rows

/-- THE TIED CARD OF 'muntinlaw11.NormTells'. -/
def normTellsCard : Claim7 := { stood := { row := normTellsRow, standIns := [], harness := (true, "371683e06276f5e8984b8456a295dbf05fedec5bb7a81996f171ada3bb668175"), looks := false }, kinds := [], alts := [], laidByText := true, laidKinds := [.data, .data, .pinned], laidTests := true, laidLooks := .later }
def NormTellsCardSaid : Prop := Claim7.holds Tryd.pinned (.plain (OpenSpec.ofChange normTellsSpec)) normTellsCard

/-- THE TIED CARD OF 'muntinlaw11.NormCells'. -/
def normCellsCard : Claim7 := { stood := { row := normCellsRow, standIns := [], harness := (true, "371683e06276f5e8984b8456a295dbf05fedec5bb7a81996f171ada3bb668175"), looks := false }, kinds := [], alts := [], laidByText := true, laidKinds := [.data, .data, .pinned], laidTests := true, laidLooks := .later }
def NormCellsCardSaid : Prop := Claim7.holds Tryd.pinned (.plain (OpenSpec.ofChange normCellsSpec)) normCellsCard

/-- THE TIED CARD OF 'muntinlaw11.NormBack'. -/
def normBackCard : Claim7 := { stood := { row := normBackRow, standIns := [], harness := (true, "371683e06276f5e8984b8456a295dbf05fedec5bb7a81996f171ada3bb668175"), looks := false }, kinds := [], alts := [], laidByText := true, laidKinds := [.data, .data, .pinned], laidTests := true, laidLooks := .later }
def NormBackCardSaid : Prop := Claim7.holds Tryd.pinned (.plain (OpenSpec.ofChange normBackSpec)) normBackCard

/-- THE SECOND FORM's CARD OF 'muntinlaw11.NormTells'. -/
def normTellsUptoCard : Claim7 := { stood := { row := normTellsUptoRow, standIns := [], harness := (true, "371683e06276f5e8984b8456a295dbf05fedec5bb7a81996f171ada3bb668175"), looks := false }, kinds := [], alts := [], laidByText := true, laidKinds := [.data, .data, .pinned], laidTests := true, laidLooks := .later }
def NormTellsUptoCardSaid : Prop := Claim7.holds Tryd.pinned (.plain (OpenSpec.upto normTellsSpec)) normTellsUptoCard

/-- THE SECOND FORM's CARD OF 'muntinlaw11.NormCells'. -/
def normCellsUptoCard : Claim7 := { stood := { row := normCellsUptoRow, standIns := [], harness := (true, "371683e06276f5e8984b8456a295dbf05fedec5bb7a81996f171ada3bb668175"), looks := false }, kinds := [], alts := [], laidByText := true, laidKinds := [.data, .data, .pinned], laidTests := true, laidLooks := .later }
def NormCellsUptoCardSaid : Prop := Claim7.holds Tryd.pinned (.plain (OpenSpec.upto normCellsSpec)) normCellsUptoCard

/-- THE SECOND FORM's CARD OF 'muntinlaw11.NormBack'. -/
def normBackUptoCard : Claim7 := { stood := { row := normBackUptoRow, standIns := [], harness := (true, "371683e06276f5e8984b8456a295dbf05fedec5bb7a81996f171ada3bb668175"), looks := false }, kinds := [], alts := [], laidByText := true, laidKinds := [.data, .data, .pinned], laidTests := true, laidLooks := .later }
def NormBackUptoCardSaid : Prop := Claim7.holds Tryd.pinned (.plain (OpenSpec.upto normBackSpec)) normBackUptoCard
end Rows
end Go.Proofs.YtecifgaekefkpaaDoor
