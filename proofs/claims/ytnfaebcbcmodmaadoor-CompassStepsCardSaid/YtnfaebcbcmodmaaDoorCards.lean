/-
  DERIVED. GIVEN WITH THE SEED: THE CARDS: each row of YtnfaebcbcmodmaaDoorRows.lean that lists a variable, with what it lists TIED to the program's text (the seventh form; the later family's looks); each row that meets fmt, with fmt's text TOLD by the authors' own Lean function (tested against real Go, not proved from fmt's source: count such statements apart). THE CARD IS WHAT COUNTS. Prove the row's statement (the work); the ties are given (YtnfaebcbcmodmaaDoorTie.lean); close each card by the builder's one call (the guide's Derived/Test/ToyasCard.lean, 'card_holds'). Laid BY PROGRAM, IN A SANDBOX (cutbox-door.mjs). By AI agents, Wed Nov 11 2026. No macro, syntax, notation, axiom, sorry.
-/
import Derived.Test.YtnfaebcbcmodmaaDoorRows
import GoSem.ClaimSeven
namespace Go.Proofs.YtnfaebcbcmodmaaDoor
namespace Rows

/-- THE TIED CARD OF 'muntinlaw01.CompassTurns'. -/
def compassTurnsCard : Claim7 := { stood := { row := compassTurnsRow, standIns := [], harness := (true, "6debdcbee14cb19d3d4bae6a1c62755cee5c4abb616e152ea3f7bdcaee319f08"), looks := false }, kinds := [], alts := [], laidByText := true, laidKinds := [.data, .data], laidTests := true, laidLooks := .later }
def CompassTurnsCardSaid : Prop := Claim7.holds Tryd.pinned (.plain (OpenSpec.ofChange compassTurnsSpec)) compassTurnsCard

/-- THE TIED CARD OF 'muntinlaw01.CompassLetters'. -/
def compassLettersCard : Claim7 := { stood := { row := compassLettersRow, standIns := [], harness := (true, "6debdcbee14cb19d3d4bae6a1c62755cee5c4abb616e152ea3f7bdcaee319f08"), looks := false }, kinds := [], alts := [], laidByText := true, laidKinds := [.data, .data], laidTests := true, laidLooks := .later }
def CompassLettersCardSaid : Prop := Claim7.holds Tryd.pinned (.plain (OpenSpec.ofChange compassLettersSpec)) compassLettersCard

/-- THE TIED CARD OF 'muntinlaw01.CompassBetween'. -/
def compassBetweenCard : Claim7 := { stood := { row := compassBetweenRow, standIns := [], harness := (true, "6debdcbee14cb19d3d4bae6a1c62755cee5c4abb616e152ea3f7bdcaee319f08"), looks := false }, kinds := [], alts := [], laidByText := true, laidKinds := [.data, .data], laidTests := true, laidLooks := .later }
def CompassBetweenCardSaid : Prop := Claim7.holds Tryd.pinned (.plain (OpenSpec.ofChange compassBetweenSpec)) compassBetweenCard

/-- THE TIED CARD OF 'muntinlaw01.CompassRound'. -/
def compassRoundCard : Claim7 := { stood := { row := compassRoundRow, standIns := [], harness := (true, "6debdcbee14cb19d3d4bae6a1c62755cee5c4abb616e152ea3f7bdcaee319f08"), looks := false }, kinds := [], alts := [], laidByText := true, laidKinds := [.data, .data], laidTests := true, laidLooks := .later }
def CompassRoundCardSaid : Prop := Claim7.holds Tryd.pinned (.plain (OpenSpec.ofChange compassRoundSpec)) compassRoundCard

/-- THE TIED CARD OF 'muntinlaw01.CompassSteps'. -/
def compassStepsCard : Claim7 := { stood := { row := compassStepsRow, standIns := [], harness := (true, "6debdcbee14cb19d3d4bae6a1c62755cee5c4abb616e152ea3f7bdcaee319f08"), looks := false }, kinds := [], alts := [], laidByText := true, laidKinds := [.data, .data], laidTests := true, laidLooks := .later }
def CompassStepsCardSaid : Prop := Claim7.holds Tryd.pinned (.plain (OpenSpec.ofChange compassStepsSpec)) compassStepsCard

/-- THE SECOND FORM's CARD OF 'muntinlaw01.CompassTurns'. -/
def compassTurnsUptoCard : Claim7 := { stood := { row := compassTurnsUptoRow, standIns := [], harness := (true, "6debdcbee14cb19d3d4bae6a1c62755cee5c4abb616e152ea3f7bdcaee319f08"), looks := false }, kinds := [], alts := [], laidByText := true, laidKinds := [.data, .data], laidTests := true, laidLooks := .later }
def CompassTurnsUptoCardSaid : Prop := Claim7.holds Tryd.pinned (.plain (OpenSpec.upto compassTurnsSpec)) compassTurnsUptoCard

/-- THE SECOND FORM's CARD OF 'muntinlaw01.CompassLetters'. -/
def compassLettersUptoCard : Claim7 := { stood := { row := compassLettersUptoRow, standIns := [], harness := (true, "6debdcbee14cb19d3d4bae6a1c62755cee5c4abb616e152ea3f7bdcaee319f08"), looks := false }, kinds := [], alts := [], laidByText := true, laidKinds := [.data, .data], laidTests := true, laidLooks := .later }
def CompassLettersUptoCardSaid : Prop := Claim7.holds Tryd.pinned (.plain (OpenSpec.upto compassLettersSpec)) compassLettersUptoCard

/-- THE SECOND FORM's CARD OF 'muntinlaw01.CompassBetween'. -/
def compassBetweenUptoCard : Claim7 := { stood := { row := compassBetweenUptoRow, standIns := [], harness := (true, "6debdcbee14cb19d3d4bae6a1c62755cee5c4abb616e152ea3f7bdcaee319f08"), looks := false }, kinds := [], alts := [], laidByText := true, laidKinds := [.data, .data], laidTests := true, laidLooks := .later }
def CompassBetweenUptoCardSaid : Prop := Claim7.holds Tryd.pinned (.plain (OpenSpec.upto compassBetweenSpec)) compassBetweenUptoCard

/-- THE SECOND FORM's CARD OF 'muntinlaw01.CompassRound'. -/
def compassRoundUptoCard : Claim7 := { stood := { row := compassRoundUptoRow, standIns := [], harness := (true, "6debdcbee14cb19d3d4bae6a1c62755cee5c4abb616e152ea3f7bdcaee319f08"), looks := false }, kinds := [], alts := [], laidByText := true, laidKinds := [.data, .data], laidTests := true, laidLooks := .later }
def CompassRoundUptoCardSaid : Prop := Claim7.holds Tryd.pinned (.plain (OpenSpec.upto compassRoundSpec)) compassRoundUptoCard

/-- THE SECOND FORM's CARD OF 'muntinlaw01.CompassSteps'. -/
def compassStepsUptoCard : Claim7 := { stood := { row := compassStepsUptoRow, standIns := [], harness := (true, "6debdcbee14cb19d3d4bae6a1c62755cee5c4abb616e152ea3f7bdcaee319f08"), looks := false }, kinds := [], alts := [], laidByText := true, laidKinds := [.data, .data], laidTests := true, laidLooks := .later }
def CompassStepsUptoCardSaid : Prop := Claim7.holds Tryd.pinned (.plain (OpenSpec.upto compassStepsSpec)) compassStepsUptoCard
end Rows
end Go.Proofs.YtnfaebcbcmodmaaDoor
