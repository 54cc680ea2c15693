/-
  KittyTurns: its arguments opened: small numbers, two bytes. Conditions: none.
-/
import Derived.Test.YtkakeakdgidigaaKittyTurnsW
namespace Go.Proofs.Ytkakeakdgidigaa
open Go.RowKit Go.ChangeShapes Go.WideShapes Go.Deep

theorem wf_u8 {n : Int} (h : (Lit.int .u8 n).wf = true) : 0 ≤ n ∧ n ≤ 255 := by
  have h' : IntKind.u8.min ≤ n ∧ n ≤ IntKind.u8.max := by simpa [Lit.wf] using h
  exact h'
theorem turns15_arg {H : Type} {enc : TypeId × Value → H} {w : World} {v : Value} {d : DataW H} {p : List MemPlace} {spare : Nat → Bool} {held : Bool} {b0 : Nat}
    (hv : Value.okWide Try.prog w .any b0 22 v) (h : DataW.Trod enc Try.prog w 0 spare held 22 v d p) (u1 u2 : Int) (h1 : 0 ≤ u1 ∧ u1 ≤ 255) (h2 : 0 ≤ u2 ∧ u2 ≤ 255) :
    Calls Try.prog 5 #[v, .int .u8 u1, .int .u8 u2] w fun e w' => e = .returned (.bool true) ∧ Below w.heap.size w w' := by
  obtain ⟨A, n, c, D, rfl, hc, hS⟩ := s8_open hv h
  exact turnsLaw15 A n c (min n 30) D u1 u2 w hS hc rfl h1 h2
end Go.Proofs.Ytkakeakdgidigaa
