/-
  What the rows' lists of package-level variables, and the world's shape, give: the library's table of tens, the search's length. Conditions: the variables read as the rows list them.
-/
import Derived.Test.YtgchmoabhblmcaaDoorLexA
import Derived.Test.YtgchmoabhblmcaaDoorCards
import Derived.Test.YtgchmoabhblmcaaDoorTie
import Derived.Stop.LaidErr
namespace Go.Proofs.YtgchmoabhblmcaaDoor
open Go.ChangeShapes Go.WideShapes Go.ChangeAt Go.RowKit

theorem tPow : (Tryd.prog.globals[5]?).map (·.type) = some 136 := by kernel_rfl
theorem cellsPow : Tryd.prog.cellsOf 136 = 20 := by kernel_rfl
theorem cellsU64 : Tryd.prog.cellsOf 117 = 1 := by kernel_rfl
theorem tabs_of_laid {W : World} (h : laidMetH Tryd.prog Rows.parseRightRow.laid W) (hs : W.ShapedOpen Tryd.prog) : TabL W := by
  rw [MakeChecks.laidMetH_plain _ _ _ (by kernel_rfl)] at h
  have T := Lib.tabIs_of_head (k := .u64) (zs := Lib.pow10Tab) gPow tPow Tryd.underlying136 Tryd.underlying117 cellsU64 cellsPow (laidMet.tail (laidMet.tail h))
  refine ⟨T, Go.Proofs.Tryd.laysM146.s1_3 W hs, ?_⟩
  exact lt_of_cell (o := 0) (v := .int .u64 1) (by rw [World.var?_cell gPow T]; rfl)
end Go.Proofs.YtgchmoabhblmcaaDoor
