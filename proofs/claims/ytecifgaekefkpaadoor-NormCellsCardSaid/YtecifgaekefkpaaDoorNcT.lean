/-
  The table of borders, out of what the row lists. Conditions: the variables read as the rows list them.
-/
import Derived.Test.YtecifgaekefkpaaDoorNcK
import Derived.Test.YtecifgaekefkpaaDoorCards
import Derived.Test.YtecifgaekefkpaaDoorTie
import Derived.Stop.LaidErr
import Derived.Lib.LaidTab
namespace Go.Proofs.YtecifgaekefkpaaDoor
open Go.ChangeShapes Go.WideShapes Go.ChangeAt Go.RowKit

theorem gBor : Tryd.prog.globalNamed "muntin/norm.borders" = some 0 := by kernel_rfl
theorem tBor : (Tryd.prog.globals[0]?).map (·.type) = some 106 := by kernel_rfl
theorem take1 {cs : List Value} {i : Nat} {v : Value} (h : (cs.drop i).take 1 = [v]) : cs[i]? = some v := by
  have := congrArg (·[0]?) h
  simpa [List.getElem?_take, List.getElem?_drop] using this
theorem border_cells {H : Type} {enc : TypeId × Value → H} {w : World} {sp : Nat → Bool} {held : Bool} {fuel : Nat} {cs : List Value} {a b c : Int} {p : List MemPlace}
    (h : DataW.trod enc Tryd.prog w 0 sp held fuel 105 cs = some (.agg [.lit (.int .i64 a), .lit (.int .i64 b), .lit (.int .i64 c)], p)) :
    cs[0]? = some (.int .i64 a) ∧ cs[1]? = some (.int .i64 b) ∧ cs[2]? = some (.int .i64 c) := by
  obtain ⟨xs, n, _, hx, hl, hxl, hg⟩ := DataW.trod_struct Tryd.underlying105 h
  have hci : Tryd.prog.cellsOf 3 = 1 := by kernel_rfl
  have h0 := hg 0 _ rfl
  have h1 := hg 1 _ rfl
  have h2 := hg 2 _ rfl
  match xs, hxl with
  | [x0, x1, x2], _ =>
    have hx' := congrArg Prod.fst hx
    simp only [List.map_cons, List.map_nil, DataW.agg.injEq, List.cons.injEq, and_true] at hx'
    obtain ⟨e0, e1, e2⟩ := hx'
    change DataW.trod enc Tryd.prog w 0 sp held n 3 ((cs.drop 0).take (Tryd.prog.cellsOf 3)) = some x0 at h0
    change DataW.trod enc Tryd.prog w 0 sp held n 3 ((cs.drop 1).take (Tryd.prog.cellsOf 3)) = some x1 at h1
    change DataW.trod enc Tryd.prog w 0 sp held n 3 ((cs.drop 2).take (Tryd.prog.cellsOf 3)) = some x2 at h2
    rw [hci] at h0 h1 h2
    obtain ⟨z0, c0, rfl, _⟩ := DataW.trod_int Tryd.underlying3 h0
    obtain ⟨z1, c1, rfl, _⟩ := DataW.trod_int Tryd.underlying3 h1
    obtain ⟨z2, c2, rfl, _⟩ := DataW.trod_int Tryd.underlying3 h2
    simp only [DataW.lit.injEq, Lit.int.injEq, true_and] at e0 e1 e2
    subst e0 e1 e2
    exact ⟨take1 c0, take1 c1, take1 c2⟩
theorem bor_cells {H : Type} {enc : TypeId × Value → H} {w : World} {sp : Nat → Bool} {held : Bool} {fuel : Nat} {cs : List Value} {p : List MemPlace}
    (h : DataW.trod enc Tryd.prog w 0 sp held fuel 106 cs = some (Rows.laid_muntin_norm_borders, p)) : ∀ j, j < 12 → cs[j]? = some (.int .i64 (borL.getD j 0)) := by
  obtain ⟨xs, n, _, hx, hl, hxl, hg⟩ := DataW.trod_array Tryd.underlying106 h
  have hcb : Tryd.prog.cellsOf 105 = 3 := by kernel_rfl
  have hct : Tryd.prog.cellsOf 106 = 12 := by kernel_rfl
  rw [hcb] at hg
  rw [hct] at hl
  have g0 := hg 0 (by omega)
  have g1 := hg 1 (by omega)
  have g2 := hg 2 (by omega)
  have g3 := hg 3 (by omega)
  match xs, hxl with
  | [⟨d0, p0⟩, ⟨d1, p1⟩, ⟨d2, p2⟩, ⟨d3, p3⟩], _ =>
    have hx' := congrArg Prod.fst hx
    simp only [Rows.laid_muntin_norm_borders, List.map_cons, List.map_nil, DataW.agg.injEq, List.cons.injEq, and_true] at hx'
    obtain ⟨e0, e1, e2, e3⟩ := hx'
    subst e0 e1 e2 e3
    obtain ⟨a0, a1, a2⟩ := border_cells g0
    obtain ⟨b0, b1, b2⟩ := border_cells g1
    obtain ⟨c0, c1, c2⟩ := border_cells g2
    obtain ⟨f0, f1, f2⟩ := border_cells g3
    simp only [List.getElem?_take, List.getElem?_drop] at a0 a1 a2 b0 b1 b2 c0 c1 c2 f0 f1 f2
    intro j hj
    match j with
    | 0 => simpa [borL] using a0
    | 1 => simpa [borL] using a1
    | 2 => simpa [borL] using a2
    | 3 => simpa [borL] using b0
    | 4 => simpa [borL] using b1
    | 5 => simpa [borL] using b2
    | 6 => simpa [borL] using c0
    | 7 => simpa [borL] using c1
    | 8 => simpa [borL] using c2
    | 9 => simpa [borL] using f0
    | 10 => simpa [borL] using f1
    | 11 => simpa [borL] using f2
    | k + 12 => omega
theorem borT_of {rest : List (String × DataW Unit)} {W : World} (h : laidMet Tryd.prog (("muntin/norm.borders", Rows.laid_muntin_norm_borders) :: rest) W) : BorT W := by
  obtain ⟨ps, ⟨g', t', cs, fuel, p, q, hg', ht', hvar, hd, _, _⟩, _⟩ := h
  obtain rfl := Option.some.inj (gBor.symm.trans hg')
  obtain rfl := Option.some.inj (tBor.symm.trans ht')
  have hc := bor_cells hd
  have at_ : ∀ j, j < 12 → W.cell? ⟨0, j, none⟩ = some (.int .i64 (borL.getD j 0)) := by
    intro j hj
    rw [World.var?_cell gBor hvar]
    simpa using hc j hj
  exact ⟨lt_of_cell (at_ 0 (by omega)), at_⟩
theorem bor_of_laid {W : World} (h : laidMetH Tryd.prog Rows.normTellsRow.laid W) : BorT W := by
  rw [MakeChecks.laidMetH_plain _ _ _ (by kernel_rfl)] at h
  exact borT_of (laidMet.tail h)
end Go.Proofs.YtecifgaekefkpaaDoor
