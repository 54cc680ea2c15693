/-
  A grid: two cells linked. Conditions: both are there; at most 100000 cells.
-/
import Derived.Test.YtkgknbjcllcndaaGdB
import Derived.BigRegion
namespace Go.Proofs.Ytkgknbjcllcndaa
open Go.RowKit Go.Proofs.Ytkgknbjcllcndaa.GrM

set_option maxHeartbeats 4000000 in
set_option maxRecDepth 100000 in
theorem linkY {w : World} {p n g cap : Nat} {L : List Int} (h : GrdAt w p (.slice (some ⟨g, 0, none⟩) n cap) L n) (a d x : Nat) (o : Int) (ha : a < n) (hx : x < n) (hd : d < 4) :
    Calls Try.prog 30 #[.pointer (some ⟨p, 0, none⟩), .int .i64 a, .int .i64 d, .int .i64 x, .int .i64 o] w fun e w' => e = .returned (.tuple #[]) ∧
      GrdAt w' p (.slice (some ⟨g, 0, none⟩) n cap) (joinG L a d x o) n ∧ Out (fun b => b = g) w w' := by
  have C := Lib.hid (contraryY d)
  have H := Lib.hid h
  have h1 := h.c0
  have hl := h.len
  obtain ⟨y1, k1⟩ : ∃ y, w.cell? ⟨g, a * 8 + d, none⟩ = some y := ⟨_, by rw [h.row.cellAt (a * 8 + d) (by omega), List.getElem?_eq_getElem (by simp; omega)]⟩
  obtain ⟨y2, k2⟩ : ∃ y, w.cell? ⟨g, a * 8 + 4 + d, none⟩ = some y := ⟨_, by rw [h.row.cellAt (a * 8 + 4 + d) (by omega), List.getElem?_eq_getElem (by simp; omega)]⟩
  have f1 := h.row.frozenAt (a * 8 + d)
  have f2 := h.row.frozenAt (a * 8 + 4 + d)
  have hlh := Lib.hid hl
  clear h hl
  go_enter Try.func30, Try.ntmps30
  go_upto_region 1 with (go_at_call 32; refine (C.out _ hd).mono ?_; rintro e w' ⟨rfl, rfl⟩)
  go_region
  have g2 : GrdAt (((w.setCell ⟨g, a * 8 + d, none⟩ (.int .i64 x)).setCell ⟨g, a * 8 + 4 + d, none⟩ (.int .i64 o)).drew) p (.slice (some ⟨g, 0, none⟩) n cap) (putG L a d x o) n := ((H.out.set _ _).set _ _).drew
  have u2 : Out (fun b => b = g) w (((w.setCell ⟨g, a * 8 + d, none⟩ (.int .i64 x)).setCell ⟨g, a * 8 + 4 + d, none⟩ (.int .i64 o)).drew) := (((Out.refl _ w).setIn _ _).setIn _ _).drew
  clear h1 k1 k2 f1 f2
  generalize (((w.setCell ⟨g, a * 8 + d, none⟩ (.int .i64 x)).setCell ⟨g, a * 8 + 4 + d, none⟩ (.int .i64 o)).drew) = w2 at *
  have G2 := Lib.hid g2
  have U2 := Lib.hid u2
  have h1 := g2.c0
  have ho4 := opp_lt d
  have hl2 := g2.len
  obtain ⟨y3, k1⟩ : ∃ y, w2.cell? ⟨g, x * 8 + opp d, none⟩ = some y := ⟨_, by rw [g2.row.cellAt (x * 8 + opp d) (by omega), List.getElem?_eq_getElem (by simp; omega)]⟩
  obtain ⟨y4, k2⟩ : ∃ y, w2.cell? ⟨g, x * 8 + 4 + opp d, none⟩ = some y := ⟨_, by rw [g2.row.cellAt (x * 8 + 4 + opp d) (by omega), List.getElem?_eq_getElem (by simp; omega)]⟩
  have f1 := g2.row.frozenAt (x * 8 + opp d)
  have f2 := g2.row.frozenAt (x * 8 + 4 + opp d)
  have GE : Hid (GrdAt (((w2.setCell ⟨g, x * 8 + opp d, none⟩ (.int .i64 a)).setCell ⟨g, x * 8 + 4 + opp d, none⟩ (.int .i64 o)).drew) p (.slice (some ⟨g, 0, none⟩) n cap) (joinG L a d x o) n) := Lib.hid ((g2.set _ _).set _ _).drew
  have UE : Hid (Out (fun b => b = g) w (((w2.setCell ⟨g, x * 8 + opp d, none⟩ (.int .i64 a)).setCell ⟨g, x * 8 + 4 + opp d, none⟩ (.int .i64 o)).drew)) := Lib.hid ((u2.setIn _ _).setIn _ _).drew
  clear g2 u2 hl2
  generalize opp d = d2 at *
  go_wp2_with fail
  go_region
  go_wp2_with fail
  go_end0
  exact ⟨rfl, GE.out, UE.out⟩
end Go.Proofs.Ytkgknbjcllcndaa
