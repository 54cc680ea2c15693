/-
  What the document fixes of faces is so: the law's 'wakes' answers true. Conditions: the ways read as the program lays them.
-/
import Derived.Test.YtkgabklponjagaaDoorFcH
namespace Go.Proofs.YtkgabklponjagaaDoor
open Go.RowKit Go.Proofs.YtkgabklponjagaaDoor.GrM Go.Proofs.YtkgabklponjagaaDoor.FcM

set_option maxHeartbeats 8000000 in
set_option maxRecDepth 100000 in
theorem wakes12 (w : World) (hT : WayT w) : Calls Tryd.prog 11 #[] w fun e w' => e = .returned (.bool true) ∧ Below w.heap.size w w' := by
  have HT := Lib.hid hT
  have PW := Lib.hid pairW
  have FW := Lib.hid (fun lv w (hL : CelAt w lv wkP 2) (hT : WayT w) => facesW lv w hL hT)
  have TW := Lib.hid (fun lv dv w (hL : CelAt w lv wkP 2) (hD : PtsAt w dv [(0, 0), (1, 2)]) (hT : WayT w) => turnsW lv dv w hL hD hT)
  have NW := Lib.hid (fun lv w (hL : CelAt w lv wkP 2) (hT : WayT w) => nextW lv w hL hT)
  have he := eqD
  clear hT
  go_enter Tryd.func11, Tryd.ntmps11
  go_upto_region 2 with (first
    | (go_at_call 9; refine (FW.out _ _ (OwnG.cel O1.out) (HT.out.below B1.out (Nat.le_refl _))).mono ?_; rintro e w2 ⟨b, o, c, A, c', rfl, hb2, hc2, hp2, b2⟩; have P2 := Lib.hid hp2; have B2 := Lib.hid (B1.out.trans (b2.mono B1.out.size)); clear b2 hp2)
    | (go_at_call 34; refine (PW.out _).mono ?_; rintro e w1 ⟨A1, c1, rfl, o1, b1⟩; have O1 := Lib.hid o1; have B1 := Lib.hid b1; clear o1 b1))
  have C2 : Hid (∀ wr, Below w2.heap.size w2 wr → wr.cell? ⟨b, o, none⟩ = some (.slice A 2 c') ∧ b < wr.heap.size ∧ PtsAt wr (.slice A 2 c') [(0, 0), (1, 2)]) := Lib.hid (fun wr h => ⟨(h.cell (p := ⟨b, o, none⟩) hb2).trans hc2, Nat.lt_of_lt_of_le hb2 h.size, P2.out.below h (Nat.le_refl _)⟩)
  clear hb2 hc2
  go_upto_region 3 with (first
    | (go_at_call 18; refine (NW.out _ _ (OwnG.cel O3.out) (HT.out.below (B2.out.trans (B3.out.mono B2.out.size)) (Nat.le_refl _))).mono ?_; rintro e w4 ⟨rfl, b4⟩; have B4 := Lib.hid (B3.out.trans (b4.mono B3.out.size)); clear b4)
    | (go_at_call 34; refine (PW.out _).mono ?_; rintro e w3 ⟨A3, c3, rfl, o3, b3⟩; have O3 := Lib.hid o3; have B3 := Lib.hid b3; clear o3 b3))
  obtain ⟨wb, hwb⟩ : ∃ X, X = (w4.alloc (.cells #[.int .i64 1, .int .i64 2] 28)) := ⟨_, rfl⟩
  have bb : Below w2.heap.size w2 wb := by rw [hwb]; exact B4.out.alloc B4.out.size _
  have y0 : wb.cell? ⟨w4.heap.size, 0, none⟩ = some (.int .i64 1) := by rw [hwb]; go_simp
  have y1 : wb.cell? ⟨w4.heap.size, 1, none⟩ = some (.int .i64 2) := by rw [hwb]; go_simp
  have hzx : w4.heap.size < wb.heap.size := by rw [hwb]; simp
  obtain ⟨x0, xl, P5⟩ := C2.out wb bb
  have BB := Lib.hid bb
  have PB := Lib.hid P5
  have TB : Hid (WayT wb) := Lib.hid (HT.out.below (B2.out.trans (bb.mono B2.out.size)) (Nat.le_refl _))
  rw [← hwb]
  clear hwb bb P5
  have CC : Hid (∀ wr, Below wb.heap.size wb wr → wr.cell? ⟨b, o, none⟩ = some (.slice A 2 c') ∧ wr.cell? ⟨w4.heap.size, 0, none⟩ = some (.int .i64 1) ∧ wr.cell? ⟨w4.heap.size, 1, none⟩ = some (.int .i64 2)) := Lib.hid (fun wr h =>
    ⟨(h.cell (p := ⟨_, _, none⟩) xl).trans x0, (h.cell (p := ⟨_, _, none⟩) hzx).trans y0, (h.cell (p := ⟨_, _, none⟩) hzx).trans y1⟩)
  have RW : Hid (∀ zv w, ZsAt w zv [1, -2, 7] 3 → Calls Tryd.prog 16 #[zv] w fun e w' => e = .returned (.int .i64 (-1)) ∧ w = w') := Lib.hid (fun zv w hZ => rotAny zv [1, -2, 7] 3 w hZ (by decide))
  have EQ := Lib.hid (fun v u w (hX : ZsAt w v [-2, -2] 2) (hY : ZsAt w u [-2, -2] 2) => equalZ v u [-2, -2] [-2, -2] 2 2 w hX hY (by decide) (by decide))
  go_region_held3 (fun w' => w'.cell? ⟨b, o, none⟩ = some (.slice A 2 c') ∧ w'.cell? ⟨w4.heap.size, 0, none⟩ = some (.int .i64 1) ∧ w'.cell? ⟨w4.heap.size, 1, none⟩ = some (.int .i64 2))
    (first | go_keep | exact CC.out _ Q3.out | exact CC.out _ Q2.out | exact CC.out _ Q1.out)
    ((first
      | (go_at_call 16; refine (RW.out _ _ (zsNew _ _ [1, -2, 7] 3 rfl 3 (heap_alloc_new _ _))).mono ?_; rintro e w8 ⟨rfl, rfl⟩)
      | (go_at_call 14; have _z := Q2; refine (EQ.out _ _ _ (by first | exact Z6.out | exact Z6.out.below ((Below.refl _ _).alloc (Nat.le_refl _) _) (Nat.le_refl _)) (by first | exact Y6.out | exact zsNew _ _ [-2, -2] 2 rfl 3 (heap_alloc_new _ _))).mono ?_; rintro e w7 ⟨rfl, b7⟩; have Q3 : Hid (Below wb.heap.size wb w7) := Lib.hid (by first | exact Q2.out.trans (b7.mono Q2.out.size) | exact (Q2.out.alloc Q2.out.size _).trans (b7.mono (by have := Q2.out.size; simp; omega))); clear b7)
      | (go_at_call 13; have _z := Q1; refine (TW.out _ _ _ (by first | exact OwnG.cel O5.out | exact (OwnG.cel O5.out).below ((Below.refl _ _).alloc (Nat.le_refl _) _) (Nat.le_refl _)) (by first | exact PB.out.below Q1.out (Nat.le_refl _) | exact PB.out.below (Q1.out.alloc Q1.out.size _) (Nat.le_refl _)) (by first | exact TB.out.below Q1.out (Nat.le_refl _) | exact TB.out.below (Q1.out.alloc Q1.out.size _) (Nat.le_refl _))).mono ?_; rintro e w6 ⟨A6, c6, rfl, z6, b6⟩; have Z6 := Lib.hid z6; (first | (have y6 := Y5.out.below b6 (Nat.le_refl _); have Y6 := Lib.hid y6; clear y6) | (have y6 := (zsNew _ _ [-2, -2] 2 rfl 3 (heap_alloc_new w5 _)).below b6 (Nat.le_refl _); have Y6 := Lib.hid y6; clear y6) | skip); have Q2 : Hid (Below wb.heap.size wb w6) := Lib.hid (by first | exact Q1.out.trans (b6.mono Q1.out.size) | exact (Q1.out.alloc Q1.out.size _).trans (b6.mono (by have := Q1.out.size; simp; omega))); clear b6 z6)
      | (go_at_call 34; refine (PW.out _).mono ?_; rintro e w5 ⟨A5, c5, rfl, o5, b5⟩; have O5 := Lib.hid o5; (first | (have y5 := (zsNew _ _ [-2, -2] 2 rfl 3 (heap_alloc_new wb.drew _)).below b5 (Nat.le_refl _); have Y5 := Lib.hid y5; clear y5) | skip); have Q1 : Hid (Below wb.heap.size wb w5) := Lib.hid (by first | exact (Below.refl _ _).drew.trans b5 | exact ((Below.refl _ _).drew.alloc (Nat.le_refl _) _).trans (b5.mono (by simp))); clear o5 b5)))
  all_goals
    go_wp2_with fail
    go_ret
    have h7 := BB.out.trans (Q3.out.mono BB.out.size)
    exact ⟨rfl, B2.out.trans ((h7.alloc h7.size _).mono B2.out.size)⟩
end Go.Proofs.YtkgabklponjagaaDoor
