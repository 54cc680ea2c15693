/-
  What the rows' lists of package-level variables, and the world's shape, give: the library's table of tens, the search's length. Conditions: the variables read as the rows list them.
-/
import Derived.Test.YtgedcalplfnjmaaGreatDoorLexA
import Derived.Test.YtgedcalplfnjmaaGreatDoorCards
import Derived.Test.YtgedcalplfnjmaaGreatDoorTie
import Derived.Stop.LaidErr
namespace Go.Proofs.YtgedcalplfnjmaaGreatDoor
open Go.ChangeShapes Go.WideShapes Go.ChangeAt Go.RowKit

theorem tPow : (Tryz.prog.globals[3]?).map (·.type) = some 124 := by kernel_rfl
theorem cellsPow : Tryz.prog.cellsOf 124 = 20 := by kernel_rfl
theorem cellsU64 : Tryz.prog.cellsOf 107 = 1 := by kernel_rfl
theorem tabs_of_laid {W : World} (h : laidMetH Tryz.prog Rows.textBackRow.laid W) (hs : W.ShapedOpen Tryz.prog) : TabL W := by
  rw [MakeChecks.laidMetH_plain _ _ _ (by kernel_rfl)] at h
  have T := Lib.tabIs_of_head (k := .u64) (zs := Lib.pow10Tab) gPow tPow Tryz.underlying124 Tryz.underlying107 cellsU64 cellsPow (laidMet.tail (laidMet.tail h))
  refine ⟨T, Go.Proofs.cell_of_shapedOpen_int (zero := #[.int .i64 0]) (t := 3) hs (of_decide_eq_true (by kernel_rfl)) (by kernel_rfl) rfl (by kernel_rfl) (by kernel_rfl) Tryz.underlying3, ?_⟩
  exact lt_of_cell (o := 0) (v := .int .u64 1) (by rw [World.var?_cell gPow T]; rfl)
end Go.Proofs.YtgedcalplfnjmaaGreatDoor
