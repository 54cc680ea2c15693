/-
  The table of ways, out of what the rows list. Conditions: the variable reads as the rows list it.
-/
import Derived.Test.YtkakeakdgidigaaDoorVzF2
import Derived.Test.YtkakeakdgidigaaDoorArgs
import Derived.Test.YtkakeakdgidigaaDoorCards
import Derived.Test.YtkakeakdgidigaaDoorTie
import Derived.Stop.LaidErr
import Derived.Lib.LaidTab
namespace Go.Proofs.YtkakeakdgidigaaDoor
open Go.ChangeShapes Go.WideShapes Go.ChangeAt Go.RowKit

theorem gWayV : Tryd.prog.globalNamed "muntin/face.ways" = some 0 := by kernel_rfl
theorem tWayV : (Tryd.prog.globals[0]?).map (·.type) = some 71 := by kernel_rfl
theorem takeOneV {cs : List Value} {i : Nat} {v : Value} (h : (cs.drop i).take 1 = [v]) : cs[i]? = some v := by
  have := congrArg (·[0]?) h
  simpa [List.getElem?_take, List.getElem?_drop] using this
theorem way_cellsV {H : Type} {enc : TypeId × Value → H} {w : World} {sp : Nat → Bool} {held : Bool} {fuel : Nat} {cs : List Value} {p : List MemPlace}
    (h : DataW.trod enc Tryd.prog w 0 sp held fuel 71 cs = some (Rows.laid_muntin_face_ways, p)) : ∀ j, j < 4 → cs[j]? = some (.int .i64 (1 - (j : Int))) := by
  obtain ⟨xs, n, _, hx, hl, hxl, hg⟩ := DataW.trod_array Tryd.underlying71 h
  have hcb : Tryd.prog.cellsOf 3 = 1 := by kernel_rfl
  rw [hcb] at hg
  have g0 := hg 0 (by omega)
  have g1 := hg 1 (by omega)
  have g2 := hg 2 (by omega)
  have g3 := hg 3 (by omega)
  match xs, hxl with
  | [⟨d0, p0⟩, ⟨d1, p1⟩, ⟨d2, p2⟩, ⟨d3, p3⟩], _ =>
    have hx' := congrArg Prod.fst hx
    simp only [Rows.laid_muntin_face_ways, List.map_cons, List.map_nil, DataW.agg.injEq, List.cons.injEq, and_true] at hx'
    obtain ⟨e0, e1, e2, e3⟩ := hx'
    obtain ⟨z0, c0, q0, _⟩ := DataW.trod_int Tryd.underlying3 g0
    obtain ⟨z1, c1, q1, _⟩ := DataW.trod_int Tryd.underlying3 g1
    obtain ⟨z2, c2, q2, _⟩ := DataW.trod_int Tryd.underlying3 g2
    obtain ⟨z3, c3, q3, _⟩ := DataW.trod_int Tryd.underlying3 g3
    simp only [Prod.mk.injEq] at q0 q1 q2 q3
    have r0 := e0.trans q0.1
    have r1 := e1.trans q1.1
    have r2 := e2.trans q2.1
    have r3 := e3.trans q3.1
    simp only [DataW.lit.injEq, Lit.int.injEq, true_and] at r0 r1 r2 r3
    subst r0 r1 r2 r3
    intro j hj
    match j with
    | 0 => exact takeOneV c0
    | 1 => exact takeOneV c1
    | 2 => exact takeOneV c2
    | 3 => exact takeOneV c3
    | k + 4 => omega
theorem way_ofV {rest : List (String × DataW Unit)} {W : World} (h : laidMet Tryd.prog (("muntin/face.ways", Rows.laid_muntin_face_ways) :: rest) W) : WayT W := by
  obtain ⟨ps, ⟨g', t', cs, fuel, p, q, hg', ht', hvar, hd, _, _⟩, _⟩ := h
  obtain rfl := Option.some.inj (gWayV.symm.trans hg')
  obtain rfl := Option.some.inj (tWayV.symm.trans ht')
  have hc := way_cellsV hd
  have at_ : ∀ j, j < 4 → W.cell? ⟨0, j, none⟩ = some (.int .i64 (1 - (j : Int))) := by
    intro j hj
    rw [World.var?_cell gWayV hvar]
    simpa using hc j hj
  exact ⟨lt_of_cell (at_ 0 (by omega)), at_⟩
theorem way_laidV {W : World} (h : laidMetH Tryd.prog [("muntin/face.ways", Rows.laid_muntin_face_ways)] W) : WayT W := by
  rw [MakeChecks.laidMetH_plain _ _ _ (by kernel_rfl)] at h
  exact way_ofV h
end Go.Proofs.YtkakeakdgidigaaDoor
