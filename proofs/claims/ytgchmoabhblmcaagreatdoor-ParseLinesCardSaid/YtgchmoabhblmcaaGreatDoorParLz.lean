/-
  What the rows' lists of package-level variables, and the world's shape, give: the library's table of tens, the search's length. Conditions: the variables read as the rows list them.
-/
import Derived.Test.YtgchmoabhblmcaaGreatDoorLexA
import Derived.Test.YtgchmoabhblmcaaGreatDoorCards
import Derived.Test.YtgchmoabhblmcaaGreatDoorTie
import Derived.Stop.LaidErr
namespace Go.Proofs.YtgchmoabhblmcaaGreatDoor
open Go.ChangeShapes Go.WideShapes Go.ChangeAt Go.RowKit

theorem tPow : (Tryz.prog.globals[5]?).map (·.type) = some 154 := by kernel_rfl
theorem cellsPow : Tryz.prog.cellsOf 154 = 20 := by kernel_rfl
theorem cellsU64 : Tryz.prog.cellsOf 81 = 1 := by kernel_rfl
theorem tabs_of_laid {W : World} (h : laidMetH Tryz.prog Rows.parseManyRow.laid W) (hs : W.ShapedOpen Tryz.prog) : TabL W := by
  rw [MakeChecks.laidMetH_plain _ _ _ (by kernel_rfl)] at h
  have T := Lib.tabIs_of_head (k := .u64) (zs := Lib.pow10Tab) gPow tPow Tryz.underlying154 Tryz.underlying81 cellsU64 cellsPow (laidMet.tail (laidMet.tail h))
  refine ⟨T, Go.Proofs.Tryz.laysM146.s1_3 W hs, ?_⟩
  exact lt_of_cell (o := 0) (v := .int .u64 1) (by rw [World.var?_cell gPow T]; rfl)
end Go.Proofs.YtgchmoabhblmcaaGreatDoor
