/-
  What the rows' lists of package-level variables, and the world's shape, give: the library's table of tens, the search's length. Conditions: the variables read as the rows list them.
-/
import Derived.Test.YtgedcalplfnjmaaDoorLexA
import Derived.Test.YtgedcalplfnjmaaDoorCards
import Derived.Test.YtgedcalplfnjmaaDoorTie
import Derived.Stop.LaidErr
namespace Go.Proofs.YtgedcalplfnjmaaDoor
open Go.ChangeShapes Go.WideShapes Go.ChangeAt Go.RowKit

theorem tPow : (Tryd.prog.globals[1]?).map (·.type) = some 96 := by kernel_rfl
theorem cellsPow : Tryd.prog.cellsOf 96 = 20 := by kernel_rfl
theorem cellsU64 : Tryd.prog.cellsOf 89 = 1 := by kernel_rfl
theorem tabs_of_laid {W : World} (h : laidMetH Tryd.prog Rows.textTurnsRow.laid W) (hs : W.ShapedOpen Tryd.prog) : TabL W := by
  rw [MakeChecks.laidMetH_plain _ _ _ (by kernel_rfl)] at h
  have T := Lib.tabIs_of_head (k := .u64) (zs := Lib.pow10Tab) gPow tPow Tryd.underlying96 Tryd.underlying89 cellsU64 cellsPow (laidMet.tail (laidMet.tail h))
  refine ⟨T, Go.Proofs.cell_of_shapedOpen_int (zero := #[.int .i64 0]) (t := 3) hs (of_decide_eq_true (by kernel_rfl)) (by kernel_rfl) rfl (by kernel_rfl) (by kernel_rfl) Tryd.underlying3, ?_⟩
  exact lt_of_cell (o := 0) (v := .int .u64 1) (by rw [World.var?_cell gPow T]; rfl)
end Go.Proofs.YtgedcalplfnjmaaDoor
