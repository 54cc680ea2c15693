/-
  DERIVED. GIVEN WITH THE SEED: THE CARDS: each row of YtkgabklponjagaaDoorRows.lean that lists a variable, with what it lists TIED to the program's text (the seventh form; the later family's looks); each row that meets fmt, with fmt's text TOLD by the authors' own Lean function (tested against real Go, not proved from fmt's source: count such statements apart). THE CARD IS WHAT COUNTS. Prove the row's statement (the work); the ties are given (YtkgabklponjagaaDoorTie.lean); close each card by the builder's one call (the guide's Derived/Test/ToyasCard.lean, 'card_holds'). Laid BY PROGRAM, IN A SANDBOX (cutbox-door.mjs). By AI agents, Wed Nov 11 2026. No macro, syntax, notation, axiom, sorry.
-/
import Derived.Test.YtkgabklponjagaaDoorRows
import GoSem.ClaimSeven
namespace Go.Proofs.YtkgabklponjagaaDoor
namespace Rows

/-- THE TIED CARD OF 'muntinlaw12.FaceTells'. -/
def faceTellsCard : Claim7 := { stood := { row := faceTellsRow, standIns := [], harness := (true, "04d4f8e97fb26dbf300c773c772c255f0a3d84e676499f1200a5e1e095626900"), looks := false }, kinds := [], alts := [], laidByText := true, laidKinds := [.data], laidTests := true, laidLooks := .later }
def FaceTellsCardSaid : Prop := Claim7.holds Tryd.pinned (.plain (OpenSpec.ofChange faceTellsSpec)) faceTellsCard

/-- THE TIED CARD OF 'muntinlaw12.FaceOnce'. -/
def faceOnceCard : Claim7 := { stood := { row := faceOnceRow, standIns := [], harness := (true, "04d4f8e97fb26dbf300c773c772c255f0a3d84e676499f1200a5e1e095626900"), looks := false }, kinds := [], alts := [], laidByText := true, laidKinds := [.data], laidTests := true, laidLooks := .later }
def FaceOnceCardSaid : Prop := Claim7.holds Tryd.pinned (.plain (OpenSpec.ofChange faceOnceSpec)) faceOnceCard

/-- THE TIED CARD OF 'muntinlaw12.FaceSums'. -/
def faceSumsCard : Claim7 := { stood := { row := faceSumsRow, standIns := [], harness := (true, "04d4f8e97fb26dbf300c773c772c255f0a3d84e676499f1200a5e1e095626900"), looks := false }, kinds := [], alts := [], laidByText := true, laidKinds := [.data], laidTests := true, laidLooks := .later }
def FaceSumsCardSaid : Prop := Claim7.holds Tryd.pinned (.plain (OpenSpec.ofChange faceSumsSpec)) faceSumsCard

/-- THE TIED CARD OF 'muntinlaw12.FaceTurns'. -/
def faceTurnsCard : Claim7 := { stood := { row := faceTurnsRow, standIns := [], harness := (true, "04d4f8e97fb26dbf300c773c772c255f0a3d84e676499f1200a5e1e095626900"), looks := false }, kinds := [], alts := [], laidByText := true, laidKinds := [.data], laidTests := true, laidLooks := .later }
def FaceTurnsCardSaid : Prop := Claim7.holds Tryd.pinned (.plain (OpenSpec.ofChange faceTurnsSpec)) faceTurnsCard

/-- THE TIED CARD OF 'muntinlaw12.FaceSplits'. -/
def faceSplitsCard : Claim7 := { stood := { row := faceSplitsRow, standIns := [], harness := (true, "04d4f8e97fb26dbf300c773c772c255f0a3d84e676499f1200a5e1e095626900"), looks := false }, kinds := [], alts := [], laidByText := true, laidKinds := [.data], laidTests := true, laidLooks := .later }
def FaceSplitsCardSaid : Prop := Claim7.holds Tryd.pinned (.plain (OpenSpec.ofChange faceSplitsSpec)) faceSplitsCard

/-- THE SECOND FORM's CARD OF 'muntinlaw12.FaceTells'. -/
def faceTellsUptoCard : Claim7 := { stood := { row := faceTellsUptoRow, standIns := [], harness := (true, "04d4f8e97fb26dbf300c773c772c255f0a3d84e676499f1200a5e1e095626900"), looks := false }, kinds := [], alts := [], laidByText := true, laidKinds := [.data], laidTests := true, laidLooks := .later }
def FaceTellsUptoCardSaid : Prop := Claim7.holds Tryd.pinned (.plain (OpenSpec.upto faceTellsSpec)) faceTellsUptoCard

/-- THE SECOND FORM's CARD OF 'muntinlaw12.FaceOnce'. -/
def faceOnceUptoCard : Claim7 := { stood := { row := faceOnceUptoRow, standIns := [], harness := (true, "04d4f8e97fb26dbf300c773c772c255f0a3d84e676499f1200a5e1e095626900"), looks := false }, kinds := [], alts := [], laidByText := true, laidKinds := [.data], laidTests := true, laidLooks := .later }
def FaceOnceUptoCardSaid : Prop := Claim7.holds Tryd.pinned (.plain (OpenSpec.upto faceOnceSpec)) faceOnceUptoCard

/-- THE SECOND FORM's CARD OF 'muntinlaw12.FaceSums'. -/
def faceSumsUptoCard : Claim7 := { stood := { row := faceSumsUptoRow, standIns := [], harness := (true, "04d4f8e97fb26dbf300c773c772c255f0a3d84e676499f1200a5e1e095626900"), looks := false }, kinds := [], alts := [], laidByText := true, laidKinds := [.data], laidTests := true, laidLooks := .later }
def FaceSumsUptoCardSaid : Prop := Claim7.holds Tryd.pinned (.plain (OpenSpec.upto faceSumsSpec)) faceSumsUptoCard

/-- THE SECOND FORM's CARD OF 'muntinlaw12.FaceTurns'. -/
def faceTurnsUptoCard : Claim7 := { stood := { row := faceTurnsUptoRow, standIns := [], harness := (true, "04d4f8e97fb26dbf300c773c772c255f0a3d84e676499f1200a5e1e095626900"), looks := false }, kinds := [], alts := [], laidByText := true, laidKinds := [.data], laidTests := true, laidLooks := .later }
def FaceTurnsUptoCardSaid : Prop := Claim7.holds Tryd.pinned (.plain (OpenSpec.upto faceTurnsSpec)) faceTurnsUptoCard

/-- THE SECOND FORM's CARD OF 'muntinlaw12.FaceSplits'. -/
def faceSplitsUptoCard : Claim7 := { stood := { row := faceSplitsUptoRow, standIns := [], harness := (true, "04d4f8e97fb26dbf300c773c772c255f0a3d84e676499f1200a5e1e095626900"), looks := false }, kinds := [], alts := [], laidByText := true, laidKinds := [.data], laidTests := true, laidLooks := .later }
def FaceSplitsUptoCardSaid : Prop := Claim7.holds Tryd.pinned (.plain (OpenSpec.upto faceSplitsSpec)) faceSplitsUptoCard
end Rows
end Go.Proofs.YtkgabklponjagaaDoor
