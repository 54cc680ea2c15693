/-
  DERIVED. GIVEN WITH THE SEED: THE CARDS: each row of YtkakeakdgidigaaDoorRows.lean that lists a variable, with what it lists TIED to the program's text (the seventh form; the later family's looks); each row that meets fmt, with fmt's text TOLD by the authors' own Lean function (tested against real Go, not proved from fmt's source: count such statements apart). THE CARD IS WHAT COUNTS. Prove the row's statement (the work); the ties are given (YtkakeakdgidigaaDoorTie.lean); close each card by the builder's one call (the guide's Derived/Test/ToyasCard.lean, 'card_holds'). Laid BY PROGRAM, IN A SANDBOX (cutbox-door.mjs). By AI agents, Wed Nov 11 2026. No macro, syntax, notation, axiom, sorry.
-/
import Derived.Test.YtkakeakdgidigaaDoorRows
import GoSem.ClaimSeven
namespace Go.Proofs.YtkakeakdgidigaaDoor
namespace Rows

/-- THE TIED CARD OF 'muntinlaw15.KittyRegular'. -/
def kittyRegularCard : Claim7 := { stood := { row := kittyRegularRow, standIns := [], harness := (true, "0cb67105d0f2b9697cd748613d330576729f508fb134a3a98d935df290ec91ae"), looks := false }, kinds := [], alts := [], laidByText := true, laidKinds := [.data], laidTests := true, laidLooks := .later }
def KittyRegularCardSaid : Prop := Claim7.holds Tryd.pinned (.plain (OpenSpec.ofChange kittyRegularSpec)) kittyRegularCard

/-- THE SECOND FORM's CARD OF 'muntinlaw15.KittyRegular'. -/
def kittyRegularUptoCard : Claim7 := { stood := { row := kittyRegularUptoRow, standIns := [], harness := (true, "0cb67105d0f2b9697cd748613d330576729f508fb134a3a98d935df290ec91ae"), looks := false }, kinds := [], alts := [], laidByText := true, laidKinds := [.data], laidTests := true, laidLooks := .later }
def KittyRegularUptoCardSaid : Prop := Claim7.holds Tryd.pinned (.plain (OpenSpec.upto kittyRegularSpec)) kittyRegularUptoCard
end Rows
end Go.Proofs.YtkakeakdgidigaaDoor
