/-
  KittyRound: its argument opened: small numbers. Conditions: none.
-/
import Derived.Test.YtkakeakdgidigaaKittyRoundW
namespace Go.Proofs.Ytkakeakdgidigaa
open Go.RowKit Go.ChangeShapes Go.WideShapes Go.Deep

theorem round15_arg {H : Type} {enc : TypeId × Value → H} {w : World} {v : Value} {d : DataW H} {p : List MemPlace} {spare : Nat → Bool} {held : Bool} {b0 : Nat}
    (hv : Value.okWide Try.prog w .any b0 22 v) (h : DataW.Trod enc Try.prog w 0 spare held 22 v d p) :
    Calls Try.prog 4 #[v] w fun e w' => e = .returned (.bool true) ∧ Below w.heap.size w w' := by
  obtain ⟨A, n, c, D, rfl, hc, hS⟩ := s8_open hv h
  exact round15 A n c (min n 30) D w hS hc rfl
end Go.Proofs.Ytkakeakdgidigaa
