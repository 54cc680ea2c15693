/-
  KittyTells: its arguments opened: small numbers, two corners. Conditions: none.
-/
import Derived.Test.YtkakeakdgidigaaKittyTellsW
namespace Go.Proofs.Ytkakeakdgidigaa
open Go.RowKit Go.ChangeShapes Go.WideShapes Go.Deep

theorem tells15_arg {H : Type} {enc : TypeId × Value → H} {w : World} {v : Value} {d : DataW H} {p : List MemPlace} {spare : Nat → Bool} {held : Bool} {b0 : Nat}
    (hv : Value.okWide Try.prog w .any b0 22 v) (h : DataW.Trod enc Try.prog w 0 spare held 22 v d p) (xa ya xb yb : Int) :
    Calls Try.prog 3 #[v, .agg #[.int .i64 xa, .int .i64 ya], .agg #[.int .i64 xb, .int .i64 yb]] w fun e w' => e = .returned (.bool true) ∧ Below w.heap.size w w' := by
  obtain ⟨A, n, c, D, rfl, hc, hS⟩ := s8_open hv h
  exact tells15 A n c (min n 30) D xa ya xb yb w hS hc rfl
end Go.Proofs.Ytkakeakdgidigaa
