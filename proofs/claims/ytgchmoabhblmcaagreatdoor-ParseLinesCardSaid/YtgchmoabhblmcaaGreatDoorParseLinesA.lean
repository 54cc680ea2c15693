/-
  ParseLines: its argument opened. Conditions: the library's tables are laid.
-/
import Derived.Test.YtgchmoabhblmcaaGreatDoorParseLinesW
namespace Go.Proofs.YtgchmoabhblmcaaGreatDoor
open Go.RowKit Go.ChangeShapes Go.WideShapes Go.Deep Go.Proofs.YtgchmoabhblmcaaGreatDoor.LexM

set_option maxRecDepth 100000 in
theorem lines8_arg {H : Type} {enc : TypeId × Value → H} {w : World} {v : Value} {d : DataW H} {p : List MemPlace} {spare : Nat → Bool} {held : Bool} {b0 : Nat} {y : Int} (hT : TabL w)
    (hv : Value.okWide Tryz.prog w .any b0 40 v) (h : DataW.Trod enc Tryz.prog w 0 spare held 40 v d p) (hy : (Lit.int .u8 y).wf = true) :
    Calls Tryz.prog 4 #[v, .int .u8 y] w fun e w' => e = .returned (.bool true) ∧ Below w.heap.size w w' := by
  obtain ⟨bv, B, A, n, cap, D, A2, n2, cap2, D2, rfl, hB, hD, hY⟩ := raw_open8 hv h
  exact lines8 bv B A n cap D A2 n2 cap2 D2 y w hT hB hD hY (wf_b8 hy)
end Go.Proofs.YtgchmoabhblmcaaGreatDoor
