/-
  DERIVED. GIVEN WITH THE SEED: THE CARDS: each row of YtbdkkkpgjcfdgaaDoorRows.lean that lists a variable, with what it lists TIED to the program's text (the seventh form; the later family's looks); each row that meets fmt, with fmt's text TOLD by the authors' own Lean function (tested against real Go, not proved from fmt's source: count such statements apart). THE CARD IS WHAT COUNTS. Prove the row's statement (the work); the ties are given (YtbdkkkpgjcfdgaaDoorTie.lean); close each card by the builder's one call (the guide's Derived/Test/ToyasCard.lean, 'card_holds'). Laid BY PROGRAM, IN A SANDBOX (cutbox-door.mjs). By AI agents, Wed Nov 11 2026. No macro, syntax, notation, axiom, sorry.
-/
import Derived.Test.YtbdkkkpgjcfdgaaDoorRows
import GoSem.ClaimSeven
namespace Go.Proofs.YtbdkkkpgjcfdgaaDoor
namespace Rows

/-- THE TIED CARD OF 'muntinlaw14.ValidTells'. -/
def validTellsCard : Claim7 := { stood := { row := validTellsRow, standIns := [], harness := (true, "c3bf9a2c4cdd4b149d0f6d5c7f1ef1178b3a120189c3c4325fa628b903a97aa0"), looks := false }, kinds := [], alts := [], laidByText := true, laidKinds := [.data], laidTests := true, laidLooks := .later }
def ValidTellsCardSaid : Prop := Claim7.holds Tryd.pinned (.plain (OpenSpec.ofChange validTellsSpec)) validTellsCard

/-- THE TIED CARD OF 'muntinlaw14.ValidPlane'. -/
def validPlaneCard : Claim7 := { stood := { row := validPlaneRow, standIns := [], harness := (true, "c3bf9a2c4cdd4b149d0f6d5c7f1ef1178b3a120189c3c4325fa628b903a97aa0"), looks := false }, kinds := [], alts := [], laidByText := true, laidKinds := [.data], laidTests := true, laidLooks := .later }
def ValidPlaneCardSaid : Prop := Claim7.holds Tryd.pinned (.plain (OpenSpec.ofChange validPlaneSpec)) validPlaneCard

/-- THE TIED CARD OF 'muntinlaw14.ValidEuler'. -/
def validEulerCard : Claim7 := { stood := { row := validEulerRow, standIns := [], harness := (true, "c3bf9a2c4cdd4b149d0f6d5c7f1ef1178b3a120189c3c4325fa628b903a97aa0"), looks := false }, kinds := [], alts := [], laidByText := true, laidKinds := [.data], laidTests := true, laidLooks := .later }
def ValidEulerCardSaid : Prop := Claim7.holds Tryd.pinned (.plain (OpenSpec.ofChange validEulerSpec)) validEulerCard

/-- THE TIED CARD OF 'muntinlaw14.ValidTurns'. -/
def validTurnsCard : Claim7 := { stood := { row := validTurnsRow, standIns := [], harness := (true, "c3bf9a2c4cdd4b149d0f6d5c7f1ef1178b3a120189c3c4325fa628b903a97aa0"), looks := false }, kinds := [], alts := [], laidByText := true, laidKinds := [.data], laidTests := true, laidLooks := .later }
def ValidTurnsCardSaid : Prop := Claim7.holds Tryd.pinned (.plain (OpenSpec.ofChange validTurnsSpec)) validTurnsCard

/-- THE SECOND FORM's CARD OF 'muntinlaw14.ValidTells'. -/
def validTellsUptoCard : Claim7 := { stood := { row := validTellsUptoRow, standIns := [], harness := (true, "c3bf9a2c4cdd4b149d0f6d5c7f1ef1178b3a120189c3c4325fa628b903a97aa0"), looks := false }, kinds := [], alts := [], laidByText := true, laidKinds := [.data], laidTests := true, laidLooks := .later }
def ValidTellsUptoCardSaid : Prop := Claim7.holds Tryd.pinned (.plain (OpenSpec.upto validTellsSpec)) validTellsUptoCard

/-- THE SECOND FORM's CARD OF 'muntinlaw14.ValidPlane'. -/
def validPlaneUptoCard : Claim7 := { stood := { row := validPlaneUptoRow, standIns := [], harness := (true, "c3bf9a2c4cdd4b149d0f6d5c7f1ef1178b3a120189c3c4325fa628b903a97aa0"), looks := false }, kinds := [], alts := [], laidByText := true, laidKinds := [.data], laidTests := true, laidLooks := .later }
def ValidPlaneUptoCardSaid : Prop := Claim7.holds Tryd.pinned (.plain (OpenSpec.upto validPlaneSpec)) validPlaneUptoCard

/-- THE SECOND FORM's CARD OF 'muntinlaw14.ValidEuler'. -/
def validEulerUptoCard : Claim7 := { stood := { row := validEulerUptoRow, standIns := [], harness := (true, "c3bf9a2c4cdd4b149d0f6d5c7f1ef1178b3a120189c3c4325fa628b903a97aa0"), looks := false }, kinds := [], alts := [], laidByText := true, laidKinds := [.data], laidTests := true, laidLooks := .later }
def ValidEulerUptoCardSaid : Prop := Claim7.holds Tryd.pinned (.plain (OpenSpec.upto validEulerSpec)) validEulerUptoCard

/-- THE SECOND FORM's CARD OF 'muntinlaw14.ValidTurns'. -/
def validTurnsUptoCard : Claim7 := { stood := { row := validTurnsUptoRow, standIns := [], harness := (true, "c3bf9a2c4cdd4b149d0f6d5c7f1ef1178b3a120189c3c4325fa628b903a97aa0"), looks := false }, kinds := [], alts := [], laidByText := true, laidKinds := [.data], laidTests := true, laidLooks := .later }
def ValidTurnsUptoCardSaid : Prop := Claim7.holds Tryd.pinned (.plain (OpenSpec.upto validTurnsSpec)) validTurnsUptoCard
end Rows
end Go.Proofs.YtbdkkkpgjcfdgaaDoor
