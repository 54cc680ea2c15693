/-
  What the rows' lists of package-level variables give: the cells of the compass's two tables. Conditions: the variables read as the rows list them.
-/
import Derived.Test.YtnfaebcbcmodmaaDoorCards
import Derived.Test.YtnfaebcbcmodmaaDoorTie
import Derived.Test.YtnfaebcbcmodmaaDoorCompass
import Derived.Deep.DeepHandedRow
import Derived.Lib.LaidTab
namespace Go.Proofs.YtnfaebcbcmodmaaDoor
open Go.ChangeShapes Go.WideShapes Go.ChangeAt Go.RowKit

theorem own : ownKnob Tryd.prog.godebug = none := by kernel_rfl
theorem gTurns : Tryd.prog.globalNamed "muntin/compass.turns" = some 0 := by kernel_rfl
theorem gSteps : Tryd.prog.globalNamed "muntin/compass.steps" = some 1 := by kernel_rfl
theorem tTurns : (Tryd.prog.globals[0]?).map (·.type) = some 42 := by kernel_rfl
theorem tSteps : (Tryd.prog.globals[1]?).map (·.type) = some 45 := by kernel_rfl
theorem cellsTurns : Tryd.prog.cellsOf 42 = 4 := by kernel_rfl
theorem cellsSteps : Tryd.prog.cellsOf 45 = 8 := by kernel_rfl
theorem cellsPoint : Tryd.prog.cellsOf 34 = 2 := by kernel_rfl
theorem cellsInt : Tryd.prog.cellsOf 3 = 1 := by kernel_rfl

/-- A point's two cells, out of its reading. -/
theorem point_cells {H : Type} {enc : TypeId × Value → H} {w : World} {base : Nat} {sp : Nat → Bool} {held : Bool} {fuel : Nat} {cs : List Value} {x : DataW H × List MemPlace}
    (h : DataW.trod enc Tryd.prog w base sp held fuel 34 cs = some x) :
    ∃ a b : Int, x = (.agg [.lit (.int .i64 a), .lit (.int .i64 b)], []) ∧ cs = [.int .i64 a, .int .i64 b] := by
  obtain ⟨y0, y1, n, rfl, hl, h0, h1⟩ := trod_struct2 Tryd.underlying34 h
  rw [cellsPoint] at hl
  match cs, hl with
  | [c0, c1], _ =>
    obtain ⟨a, e0, rfl, _⟩ := DataW.trod_int Tryd.underlying3 h0
    obtain ⟨b, e1, rfl, _⟩ := DataW.trod_int Tryd.underlying3 h1
    simp [cellsInt] at e0 e1
    subst e0 e1
    exact ⟨a, b, rfl, rfl⟩

theorem tabs_of_laid {W : World} (h : laidMetH Tryd.prog [("muntin/compass.turns", Rows.laid_muntin_compass_turns), ("muntin/compass.steps", Rows.laid_muntin_compass_steps)] W) : Tabs W := by
  rw [MakeChecks.laidMetH_plain _ _ _ (by kernel_rfl)] at h
  have T := Lib.tabIs_of_head (k := .i64) (zs := [0, 1, -2, -1]) gTurns tTurns Tryd.underlying42 Tryd.underlying3 cellsInt cellsTurns h
  obtain ⟨ps, ⟨g0, t0, cs0, f0, p0, q0, hg0, ht0, hv0, hd0, ⟨g1, t1, cs1, f1, p1, q1, hg1, ht1, hv1, hd1, _, _⟩, _⟩, _, _⟩ := h
  obtain rfl := Option.some.inj (gSteps.symm.trans hg1)
  obtain rfl := Option.some.inj (tSteps.symm.trans ht1)
  have cell := World.var?_cell gSteps hv1
  obtain ⟨xs, m, rfl, hx, hlen, hn, hel⟩ := DataW.trod_array Tryd.underlying45 hd1
  rw [cellsSteps] at hlen
  simp only [cellsPoint] at hel
  simp only [Prod.mk.injEq, Rows.laid_muntin_compass_steps, DataW.agg.injEq] at hx
  obtain ⟨hx, _⟩ := hx
  match xs, hn with
  | [x0, x1, x2, x3], _ =>
    obtain ⟨l1⟩ := cs1
    match l1, hlen with
    | [c0, c1, c2, c3, c4, c5, c6, c7], _ =>
      simp only [List.map_cons, List.map_nil, List.cons.injEq, and_true] at hx
      obtain ⟨k0, k1, k2, k3⟩ := hx
      obtain ⟨a0, b0, rfl, e0⟩ := point_cells (hel 0 (by decide))
      obtain ⟨a1, b1, rfl, e1⟩ := point_cells (hel 1 (by decide))
      obtain ⟨a2, b2, rfl, e2⟩ := point_cells (hel 2 (by decide))
      obtain ⟨a3, b3, rfl, e3⟩ := point_cells (hel 3 (by decide))
      simp at e0 e1 e2 e3 k0 k1 k2 k3
      obtain ⟨rfl, rfl⟩ := e0
      obtain ⟨rfl, rfl⟩ := e1
      obtain ⟨rfl, rfl⟩ := e2
      obtain ⟨rfl, rfl⟩ := e3
      obtain ⟨rfl, rfl⟩ := k0
      obtain ⟨rfl, rfl⟩ := k1
      obtain ⟨rfl, rfl⟩ := k2
      obtain ⟨rfl, rfl⟩ := k3
      exact ⟨T.cell gTurns 0 (by decide), T.cell gTurns 1 (by decide), T.cell gTurns 2 (by decide), T.cell gTurns 3 (by decide), cell 0, cell 1, cell 2, cell 3, cell 4, cell 5, cell 6, cell 7, lt_of_cell (cell 0)⟩

/-- A block with these cells. -/
def layCells (c : Array Value) : Obj → Obj
  | .cells _ t frozen => .cells c t frozen
  | o => o
/-- A WORLD FOR THE WITNESS: the settled one, the tables holding what their initialisers lay. -/
noncomputable def laidWorld (os : Os) : World :=
  { World.holding Tryd.prog os ⟨#[], #[], []⟩ with heap := ((World.holding Tryd.prog os ⟨#[], #[], []⟩).heap.modify 0 (layCells #[.int .i64 0, .int .i64 1, .int .i64 (-2), .int .i64 (-1)])).modify 1 (layCells #[.int .i64 1, .int .i64 0, .int .i64 0, .int .i64 1, .int .i64 (-1), .int .i64 0, .int .i64 0, .int .i64 (-1)]) }
end Go.Proofs.YtnfaebcbcmodmaaDoor
