/-
  TextTurns: its argument opened: a struct of three ints and a string. Conditions: the library's tables are laid.
-/
import Derived.Test.YtgedcalplfnjmaaDoorTextTurnsW
import Derived.Test.YtgedcalplfnjmaaDoorArgs
import Derived.Lib.SmallJoins
namespace Go.Proofs.YtgedcalplfnjmaaDoor
open Go.RowKit Go.ChangeShapes Go.WideShapes Go.Deep Go.Proofs.YtgedcalplfnjmaaDoor.LexM

set_option maxRecDepth 100000 in
theorem edge_open {H : Type} {enc : TypeId × Value → H} {w : World} {v : Value} {d : DataW H} {p : List MemPlace} {spare : Nat → Bool} {held : Bool} {b0 : Nat}
    (hv : Value.okWide Tryd.prog w .any b0 23 v) (h : DataW.Trod enc Tryd.prog w 0 spare held 23 v d p) :
    ∃ (y1 y2 y3 : Int) (s : ByteArray), v = .agg #[.int .i64 y1, .int .i64 y2, .int .i64 y3, .string s] := by
  obtain ⟨v0, v1, v2, v3, x0, x1, x2, x3, n, rfl, _, _, h0, h1, h2, h3⟩ := Go.Joins.open_agg4 Tryd.underlying23 (by kernel_rfl) (by kernel_rfl) hv h
  obtain ⟨y1, e1, _, _⟩ := DataW.trod_int Tryd.underlying3 h0
  obtain ⟨y2, e2, _, _⟩ := DataW.trod_int Tryd.underlying3 h1
  obtain ⟨y3, e3, _, _⟩ := DataW.trod_int Tryd.underlying3 h2
  obtain ⟨s, e4, _, _⟩ := DataW.trod_string Tryd.underlying9 h3
  simp only [List.cons.injEq, and_true] at e1 e2 e3 e4
  subst e1 e2 e3 e4
  exact ⟨y1, y2, y3, s, rfl⟩
set_option maxRecDepth 100000 in
theorem turns9_arg {H : Type} {enc : TypeId × Value → H} {w : World} {v : Value} {d : DataW H} {p : List MemPlace} {spare : Nat → Bool} {held : Bool} {b0 : Nat} (hT : TabL w)
    (hv : Value.okWide Tryd.prog w .any b0 23 v) (h : DataW.Trod enc Tryd.prog w 0 spare held 23 v d p) :
    Calls Tryd.prog 3 #[v] w fun e w' => e = .returned (.bool true) ∧ Below w.heap.size w w' := by
  obtain ⟨y1, y2, y3, s, rfl⟩ := edge_open hv h
  exact turns9 y1 y2 y3 s w hT
end Go.Proofs.YtgedcalplfnjmaaDoor
