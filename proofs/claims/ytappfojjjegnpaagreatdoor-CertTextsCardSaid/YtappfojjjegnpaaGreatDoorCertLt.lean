/-
  What the rows' lists of package-level variables, and the world's shape, give: the library's table of tens, its two errors, the search's length. Conditions: the variables read as the rows list them.
-/
import Derived.Test.YtappfojjjegnpaaGreatDoorCertTextsW
import Derived.Test.YtappfojjjegnpaaGreatDoorCards
import Derived.Test.YtappfojjjegnpaaGreatDoorTie
import Derived.Stop.LaidErr
import Derived.Lib.LaidTab
namespace Go.Proofs.YtappfojjjegnpaaGreatDoor
open Go.ChangeShapes Go.WideShapes Go.ChangeAt Go.RowKit

theorem tPow : (Tryz.prog.globals[3]?).map (·.type) = some 104 := by kernel_rfl
theorem cellsPow : Tryz.prog.cellsOf 104 = 20 := by kernel_rfl
theorem cellsU64 : Tryz.prog.cellsOf 89 = 1 := by kernel_rfl
theorem tRng : (Tryz.prog.globals[2]?).map (·.type) = some 37 := by kernel_rfl
theorem tSyn : (Tryz.prog.globals[1]?).map (·.type) = some 37 := by kernel_rfl
theorem cellsErr : Tryz.prog.cellsOf 117 = 1 := by kernel_rfl
theorem cellsStr : Tryz.prog.cellsOf 9 = 1 := by kernel_rfl
theorem starErr : "*" ++ "errors.errorString" = "*errors.errorString" := by decide
theorem rowErr (u : TypeId) (h : Tryz.prog.typeName? 3 u = some "*errors.errorString") : u = 115 :=
  typeName_ptr_named (nm := "errors.errorString") (by rw [starErr]; kernel_rfl) (by kernel_rfl) (by decide) u (by rw [starErr]; exact h)
theorem tabs_of_laid {W : World} (h : laidMetH Tryz.prog Rows.certTextsRow.laid W) (hs : W.ShapedOpen Tryz.prog) : TabE W := by
  rw [MakeChecks.laidMetH_plain _ _ _ (by kernel_rfl)] at h
  have h3 := laidMet.tail (laidMet.tail h)
  have T := Lib.tabIs_of_head (k := .u64) (zs := Lib.pow10Tab) gPow tPow Tryz.underlying104 Tryz.underlying89 cellsU64 cellsPow h3
  have h5 := laidMet.tail (laidMet.tail h3)
  obtain ⟨a1, s1, v1, c1, _, _⟩ := laid_sentinel h5 gRng tRng Tryz.underlying37 rowErr Tryz.underlying115 Tryz.underlying117 rfl rfl Tryz.underlying9 cellsErr cellsStr
  obtain ⟨a2, s2, v2, c2, _, _⟩ := laid_sentinel (laidMet.tail h5) gSyn tSyn Tryz.underlying37 rowErr Tryz.underlying115 Tryz.underlying117 rfl rfl Tryz.underlying9 cellsErr cellsStr
  refine ⟨⟨T, Go.Proofs.Tryz.laysM146.s1_3 W hs, lt_of_cell (o := 0) (v := .int .u64 1) (by rw [World.var?_cell gPow T]; rfl)⟩, ⟨_, _, v2⟩, ⟨_, _, v1⟩, ?_, ?_⟩
  · exact lt_of_cell (o := 0) (by rw [World.var?_cell gSyn v2]; rfl)
  · exact lt_of_cell (o := 0) (by rw [World.var?_cell gRng v1]; rfl)
end Go.Proofs.YtappfojjjegnpaaGreatDoor
