/-
  What the reference's Join and Split answer. Conditions: at most 10000 cells.
  What the reference's Join answers at any arguments, in one function; a list that the reference hands on. Conditions: at most 10000 cells.
  What the reference's Split answers where it splits. Conditions: below 4096 cells.
-/
import Derived.Test.YtbdkkkpgjcfdgaaDoorNzRa
namespace Go.Proofs.YtbdkkkpgjcfdgaaDoor
open Go.RowKit Go.Proofs.YtbdkkkpgjcfdgaaDoor.GrM

/-- May not be joined so. -/
def badJ (n : Nat) (v d x o : Int) : Prop := v < 0 ∨ (n : Int) ≤ v ∨ x < 0 ∨ (n : Int) ≤ x ∨ v = x ∨ d < 0 ∨ 3 < d ∨ o < -2
def badS (n : Nat) (v d : Int) : Prop := v < 0 ∨ (n : Int) ≤ v ∨ d < 0 ∨ 3 < d
set_option maxHeartbeats 8000000 in
set_option maxRecDepth 100000 in
theorem refJoin_arg (A : Option Addr) (n c : Nat) (v d x o : Int) (w : World) (hbad : badJ n v d x o) :
    Calls Tryd.prog 30 #[.slice A n c, .int .i64 v, .int .i64 d, .int .i64 x, .int .i64 o] w fun r w' => r = .returned (.tuple #[.slice A n c, .int .i64 2]) ∧ Below w.heap.size w w' := by
  unfold badJ at hbad
  by_cases g0 : v < 0
  · have q0 : decide (v < 0) = true := by rw [decide_eq_true_eq]; omega
    clear hbad g0
    go_enter Tryd.func30, Tryd.ntmps30
    go_wp2
    go_ret2
    exact ⟨rfl, Below.refl _ _⟩
  · have q0 : decide (v < 0) = false := by rw [decide_eq_false_iff_not]; omega
    by_cases g1 : (n : Int) ≤ v
    · have q1 : decide ((n : Int) ≤ v) = true := by rw [decide_eq_true_eq]; omega
      clear hbad g0 g1
      go_enter Tryd.func30, Tryd.ntmps30
      go_wp2
      go_ret2
      exact ⟨rfl, Below.refl _ _⟩
    · have q1 : decide ((n : Int) ≤ v) = false := by rw [decide_eq_false_iff_not]; omega
      by_cases g2 : x < 0
      · have q2 : decide (x < 0) = true := by rw [decide_eq_true_eq]; omega
        clear hbad g0 g1 g2
        go_enter Tryd.func30, Tryd.ntmps30
        go_wp2
        go_ret2
        exact ⟨rfl, Below.refl _ _⟩
      · have q2 : decide (x < 0) = false := by rw [decide_eq_false_iff_not]; omega
        by_cases g3 : (n : Int) ≤ x
        · have q3 : decide ((n : Int) ≤ x) = true := by rw [decide_eq_true_eq]; omega
          clear hbad g0 g1 g2 g3
          go_enter Tryd.func30, Tryd.ntmps30
          go_wp2
          go_ret2
          exact ⟨rfl, Below.refl _ _⟩
        · have q3 : decide ((n : Int) ≤ x) = false := by rw [decide_eq_false_iff_not]; omega
          by_cases g4 : v = x
          · have q4 : (v == x) = true := by rw [beq_iff_eq]; omega
            clear hbad g0 g1 g2 g3 g4
            go_enter Tryd.func30, Tryd.ntmps30
            go_wp2
            go_ret2
            exact ⟨rfl, Below.refl _ _⟩
          · have q4 : (v == x) = false := by rw [beq_eq_false_iff_ne]; omega
            by_cases g5 : d < 0
            · have q5 : decide (d < 0) = true := by rw [decide_eq_true_eq]; omega
              clear hbad g0 g1 g2 g3 g4 g5
              go_enter Tryd.func30, Tryd.ntmps30
              go_wp2
              go_ret2
              exact ⟨rfl, Below.refl _ _⟩
            · have q5 : decide (d < 0) = false := by rw [decide_eq_false_iff_not]; omega
              by_cases g6 : 3 < d
              · have q6 : decide (3 < d) = true := by rw [decide_eq_true_eq]; omega
                clear hbad g0 g1 g2 g3 g4 g5 g6
                go_enter Tryd.func30, Tryd.ntmps30
                go_wp2
                go_ret2
                exact ⟨rfl, Below.refl _ _⟩
              · have q6 : decide (3 < d) = false := by rw [decide_eq_false_iff_not]; omega
                by_cases g7 : o < -2
                · have q7 : decide (o < -2) = true := by rw [decide_eq_true_eq]; omega
                  clear hbad g0 g1 g2 g3 g4 g5 g6 g7
                  go_enter Tryd.func30, Tryd.ntmps30
                  go_wp2
                  go_ret2
                  exact ⟨rfl, Below.refl _ _⟩
                · have q7 : decide (o < -2) = false := by rw [decide_eq_false_iff_not]; omega
                  exfalso
                  omega
set_option maxHeartbeats 8000000 in
set_option maxRecDepth 100000 in
theorem refSplit_arg (A : Option Addr) (n c : Nat) (v d : Int) (w : World) (hbad : badS n v d) :
    Calls Tryd.prog 18 #[.slice A n c, .int .i64 v, .int .i64 d] w fun r w' => r = .returned (.tuple #[.slice A n c, .int .i64 0, .int .i64 2]) ∧ Below w.heap.size w w' := by
  unfold badS at hbad
  by_cases g0 : v < 0
  · have q0 : decide (v < 0) = true := by rw [decide_eq_true_eq]; omega
    clear hbad g0
    go_enter Tryd.func18, Tryd.ntmps18
    go_wp2
    go_ret3
    exact ⟨rfl, Below.refl _ _⟩
  · have q0 : decide (v < 0) = false := by rw [decide_eq_false_iff_not]; omega
    by_cases g1 : (n : Int) ≤ v
    · have q1 : decide ((n : Int) ≤ v) = true := by rw [decide_eq_true_eq]; omega
      clear hbad g0 g1
      go_enter Tryd.func18, Tryd.ntmps18
      go_wp2
      go_ret3
      exact ⟨rfl, Below.refl _ _⟩
    · have q1 : decide ((n : Int) ≤ v) = false := by rw [decide_eq_false_iff_not]; omega
      by_cases g2 : d < 0
      · have q2 : decide (d < 0) = true := by rw [decide_eq_true_eq]; omega
        clear hbad g0 g1 g2
        go_enter Tryd.func18, Tryd.ntmps18
        go_wp2
        go_ret3
        exact ⟨rfl, Below.refl _ _⟩
      · have q2 : decide (d < 0) = false := by rw [decide_eq_false_iff_not]; omega
        by_cases g3 : 3 < d
        · have q3 : decide (3 < d) = true := by rw [decide_eq_true_eq]; omega
          clear hbad g0 g1 g2 g3
          go_enter Tryd.func18, Tryd.ntmps18
          go_wp2
          go_ret3
          exact ⟨rfl, Below.refl _ _⟩
        · have q3 : decide (3 < d) = false := by rw [decide_eq_false_iff_not]; omega
          exfalso
          omega
set_option maxHeartbeats 8000000 in
set_option maxRecDepth 100000 in
theorem refJoin_no (lv : Value) (L : List Int) (n v d x : Nat) (o : Int) (w : World) (hL : CelAt w lv L n) (hv : v < n) (hx' : x < n) (hvx : v ≠ x) (hd : d < 4) (ho : -2 ≤ o) (hno : nxG L v d ≠ -1 ∨ nxG L x (opp d) ≠ -1) :
    Calls Tryd.prog 30 #[lv, .int .i64 v, .int .i64 d, .int .i64 x, .int .i64 o] w fun r w' => r = .returned (.tuple #[lv, .int .i64 9]) ∧ Below w.heap.size w w' := by
  have HL := Lib.hid hL
  obtain ⟨A0, c0, e⟩ := hL.form
  subst e
  obtain ⟨b, o9, c', e, hb, -, -⟩ := hL.nth hv
  simp only [Value.slice.injEq, true_and] at e
  obtain ⟨e1, e2⟩ := e
  subst e1
  obtain ⟨cc, hcc⟩ : ∃ x, x = c0 := ⟨_, rfl⟩
  rw [← hcc] at HL ⊢
  clear e2 hcc hL
  have hx : ∀ i, i < n → ∀ e, e < 4 → w.cell? ⟨b, o9 + i * 8 + e, none⟩ = some (.int .i64 (nxG L i e)) := by
    intro i hi e he
    obtain ⟨b', o', c', e', _, h1, _⟩ := HL.out.nth hi
    simp only [Value.slice.injEq, Option.some.injEq, Addr.mk.injEq, true_and, and_true] at e'
    obtain ⟨⟨rfl, rfl⟩, rfl⟩ := e'
    exact h1 e he
  have q0 : decide ((v : Int) < 0) = false := by rw [decide_eq_false_iff_not]; omega
  have q1 : decide ((n : Int) ≤ (v : Int)) = false := by rw [decide_eq_false_iff_not]; omega
  have q1' : decide (n ≤ v) = false := by rw [decide_eq_false_iff_not]; omega
  have q2 : decide ((x : Int) < 0) = false := by rw [decide_eq_false_iff_not]; omega
  have q3 : decide ((n : Int) ≤ (x : Int)) = false := by rw [decide_eq_false_iff_not]; omega
  have q3' : decide (n ≤ x) = false := by rw [decide_eq_false_iff_not]; omega
  have q4 : ((v : Int) == (x : Int)) = false := by rw [beq_eq_false_iff_ne]; omega
  have q7 : decide (o < -2) = false := by rw [decide_eq_false_iff_not]; omega
  clear hvx ho
  have hdc : d = 0 ∨ d = 1 ∨ d = 2 ∨ d = 3 := by omega
  clear hd
  rcases hdc with rfl | rfl | rfl | rfl
  · show Calls Tryd.prog 30 #[_, .int .i64 (v : Int), .int .i64 (0 : Int), .int .i64 (x : Int), .int .i64 o] w _
    have f1 : w.cell? ⟨b, o9 + v * 8, none⟩ = some (.int .i64 (nxG L v 0)) := hx v hv 0 (by decide)
    have f2 : w.cell? ⟨b, o9 + x * 8 + 2, none⟩ = some (.int .i64 (nxG L x 2)) := hx x hx' 2 (by decide)
    have hno' : nxG L v 0 ≠ -1 ∨ nxG L x 2 ≠ -1 := hno
    clear hno hx
    generalize nxG L v 0 = y1 at *
    generalize nxG L x 2 = y2 at *
    by_cases g9 : y1 = -1
    · have q9 : (y1 == -1) = true := by rw [beq_iff_eq]; exact g9
      have q10 : (y1 != -1) = false := by rw [bne, q9]; rfl
      have q11 : (y2 == -1) = false := by rw [beq_eq_false_iff_ne]; omega
      have q12 : (y2 != -1) = true := by rw [bne, q11]; rfl
      clear hno' g9
      go_enter Tryd.func30, Tryd.ntmps30
      go_wp2
      go_ret2
      exact ⟨rfl, Below.refl _ _⟩
    · have q9 : (y1 == -1) = false := by rw [beq_eq_false_iff_ne]; exact g9
      have q10 : (y1 != -1) = true := by rw [bne, q9]; rfl
      clear hno' g9
      go_enter Tryd.func30, Tryd.ntmps30
      go_wp2
      go_ret2
      exact ⟨rfl, Below.refl _ _⟩
  · show Calls Tryd.prog 30 #[_, .int .i64 (v : Int), .int .i64 (1 : Int), .int .i64 (x : Int), .int .i64 o] w _
    have f1 : w.cell? ⟨b, o9 + v * 8 + 1, none⟩ = some (.int .i64 (nxG L v 1)) := hx v hv 1 (by decide)
    have f2 : w.cell? ⟨b, o9 + x * 8 + 3, none⟩ = some (.int .i64 (nxG L x 3)) := hx x hx' 3 (by decide)
    have hno' : nxG L v 1 ≠ -1 ∨ nxG L x 3 ≠ -1 := hno
    clear hno hx
    generalize nxG L v 1 = y1 at *
    generalize nxG L x 3 = y2 at *
    by_cases g9 : y1 = -1
    · have q9 : (y1 == -1) = true := by rw [beq_iff_eq]; exact g9
      have q10 : (y1 != -1) = false := by rw [bne, q9]; rfl
      have q11 : (y2 == -1) = false := by rw [beq_eq_false_iff_ne]; omega
      have q12 : (y2 != -1) = true := by rw [bne, q11]; rfl
      clear hno' g9
      go_enter Tryd.func30, Tryd.ntmps30
      go_wp2
      go_ret2
      exact ⟨rfl, Below.refl _ _⟩
    · have q9 : (y1 == -1) = false := by rw [beq_eq_false_iff_ne]; exact g9
      have q10 : (y1 != -1) = true := by rw [bne, q9]; rfl
      clear hno' g9
      go_enter Tryd.func30, Tryd.ntmps30
      go_wp2
      go_ret2
      exact ⟨rfl, Below.refl _ _⟩
  · show Calls Tryd.prog 30 #[_, .int .i64 (v : Int), .int .i64 (2 : Int), .int .i64 (x : Int), .int .i64 o] w _
    have f1 : w.cell? ⟨b, o9 + v * 8 + 2, none⟩ = some (.int .i64 (nxG L v 2)) := hx v hv 2 (by decide)
    have f2 : w.cell? ⟨b, o9 + x * 8, none⟩ = some (.int .i64 (nxG L x 0)) := hx x hx' 0 (by decide)
    have hno' : nxG L v 2 ≠ -1 ∨ nxG L x 0 ≠ -1 := hno
    clear hno hx
    generalize nxG L v 2 = y1 at *
    generalize nxG L x 0 = y2 at *
    by_cases g9 : y1 = -1
    · have q9 : (y1 == -1) = true := by rw [beq_iff_eq]; exact g9
      have q10 : (y1 != -1) = false := by rw [bne, q9]; rfl
      have q11 : (y2 == -1) = false := by rw [beq_eq_false_iff_ne]; omega
      have q12 : (y2 != -1) = true := by rw [bne, q11]; rfl
      clear hno' g9
      go_enter Tryd.func30, Tryd.ntmps30
      go_wp2
      go_ret2
      exact ⟨rfl, Below.refl _ _⟩
    · have q9 : (y1 == -1) = false := by rw [beq_eq_false_iff_ne]; exact g9
      have q10 : (y1 != -1) = true := by rw [bne, q9]; rfl
      clear hno' g9
      go_enter Tryd.func30, Tryd.ntmps30
      go_wp2
      go_ret2
      exact ⟨rfl, Below.refl _ _⟩
  · show Calls Tryd.prog 30 #[_, .int .i64 (v : Int), .int .i64 (3 : Int), .int .i64 (x : Int), .int .i64 o] w _
    have f1 : w.cell? ⟨b, o9 + v * 8 + 3, none⟩ = some (.int .i64 (nxG L v 3)) := hx v hv 3 (by decide)
    have f2 : w.cell? ⟨b, o9 + x * 8 + 1, none⟩ = some (.int .i64 (nxG L x 1)) := hx x hx' 1 (by decide)
    have hno' : nxG L v 3 ≠ -1 ∨ nxG L x 1 ≠ -1 := hno
    clear hno hx
    generalize nxG L v 3 = y1 at *
    generalize nxG L x 1 = y2 at *
    by_cases g9 : y1 = -1
    · have q9 : (y1 == -1) = true := by rw [beq_iff_eq]; exact g9
      have q10 : (y1 != -1) = false := by rw [bne, q9]; rfl
      have q11 : (y2 == -1) = false := by rw [beq_eq_false_iff_ne]; omega
      have q12 : (y2 != -1) = true := by rw [bne, q11]; rfl
      clear hno' g9
      go_enter Tryd.func30, Tryd.ntmps30
      go_wp2
      go_ret2
      exact ⟨rfl, Below.refl _ _⟩
    · have q9 : (y1 == -1) = false := by rw [beq_eq_false_iff_ne]; exact g9
      have q10 : (y1 != -1) = true := by rw [bne, q9]; rfl
      clear hno' g9
      go_enter Tryd.func30, Tryd.ntmps30
      go_wp2
      go_ret2
      exact ⟨rfl, Below.refl _ _⟩
set_option maxHeartbeats 8000000 in
set_option maxRecDepth 100000 in
theorem refJoin_yes (lv : Value) (L : List Int) (n v d x : Nat) (o : Int) (w : World) (hL : CelAt w lv L n) (hn : n ≤ 10000) (hv : v < n) (hx' : x < n) (hvx : v ≠ x) (hd : d < 4) (ho : -2 ≤ o) (h1 : nxG L v d = -1) (h2 : nxG L x (opp d) = -1) :
    Calls Tryd.prog 30 #[lv, .int .i64 v, .int .i64 d, .int .i64 x, .int .i64 o] w fun r w' => (∃ A c, r = .returned (.tuple #[.slice A n c, .int .i64 0]) ∧ OwnG w' w.heap.size (.slice A n c) (joinG L v d x o) n) ∧ Below w.heap.size w w' := by
  have HL := Lib.hid hL
  obtain ⟨A0, c0, e⟩ := hL.form
  subst e
  obtain ⟨b, o9, c', e, hb, -, -⟩ := hL.nth hv
  simp only [Value.slice.injEq, true_and] at e
  obtain ⟨e1, e2⟩ := e
  subst e1
  obtain ⟨cc, hcc⟩ : ∃ x, x = c0 := ⟨_, rfl⟩
  rw [← hcc] at HL ⊢
  clear e2 hcc hL
  have hx : ∀ i, i < n → ∀ e, e < 4 → w.cell? ⟨b, o9 + i * 8 + e, none⟩ = some (.int .i64 (nxG L i e)) := by
    intro i hi e he
    obtain ⟨b', o', c', e', _, h1, _⟩ := HL.out.nth hi
    simp only [Value.slice.injEq, Option.some.injEq, Addr.mk.injEq, true_and, and_true] at e'
    obtain ⟨⟨rfl, rfl⟩, rfl⟩ := e'
    exact h1 e he
  have q0 : decide ((v : Int) < 0) = false := by rw [decide_eq_false_iff_not]; omega
  have q1 : decide ((n : Int) ≤ (v : Int)) = false := by rw [decide_eq_false_iff_not]; omega
  have q1' : decide (n ≤ v) = false := by rw [decide_eq_false_iff_not]; omega
  have q2 : decide ((x : Int) < 0) = false := by rw [decide_eq_false_iff_not]; omega
  have q3 : decide ((n : Int) ≤ (x : Int)) = false := by rw [decide_eq_false_iff_not]; omega
  have q3' : decide (n ≤ x) = false := by rw [decide_eq_false_iff_not]; omega
  have q4 : ((v : Int) == (x : Int)) = false := by rw [beq_eq_false_iff_ne]; omega
  have q7 : decide (o < -2) = false := by rw [decide_eq_false_iff_not]; omega
  clear hvx ho
  have hdc : d = 0 ∨ d = 1 ∨ d = 2 ∨ d = 3 := by omega
  clear hd
  rcases hdc with rfl | rfl | rfl | rfl
  · show Calls Tryd.prog 30 #[_, .int .i64 (v : Int), .int .i64 (0 : Int), .int .i64 (x : Int), .int .i64 o] w _
    have f1 : w.cell? ⟨b, o9 + v * 8, none⟩ = some (.int .i64 (-1)) := (hx v hv 0 (by decide)).trans (by rw [h1])
    have f2 : w.cell? ⟨b, o9 + x * 8 + 2, none⟩ = some (.int .i64 (-1)) := (hx x hx' 2 (by decide)).trans (by have h2' : nxG L x 2 = -1 := h2; rw [h2'])
    have WT : Hid (Calls Tryd.prog 22 #[.slice (some ⟨b, o9, none⟩) n cc, .int .i64 (v : Int), .int .i64 (0 : Int), .int .i64 (x : Int), .int .i64 o] w fun r w' => (∃ A c, r = .returned (.slice A n c) ∧ OwnG w' w.heap.size (.slice A n c) (joinG L v 0 x o) n) ∧ Below w.heap.size w w') := Lib.hid (refWith (.slice (some ⟨b, o9, none⟩) n cc) L (joinG L v 0 x o) n 0 v x o w HL.out (by omega) (by decide) (laid_join o HL.out.1 hv hx' (by decide)))
    clear h1 h2 hx
    go_enter Tryd.func30, Tryd.ntmps30
    go_wp2_with (go_at_call 22; refine WT.out.mono ?_; rintro e w1 ⟨⟨A1, c1, rfl, h9⟩, b9⟩; have O9 := Lib.hid h9; have B9 := Lib.hid b9; clear h9 b9)
    go_ret2
    exact ⟨⟨_, _, rfl, O9.out⟩, B9.out⟩
  · show Calls Tryd.prog 30 #[_, .int .i64 (v : Int), .int .i64 (1 : Int), .int .i64 (x : Int), .int .i64 o] w _
    have f1 : w.cell? ⟨b, o9 + v * 8 + 1, none⟩ = some (.int .i64 (-1)) := (hx v hv 1 (by decide)).trans (by rw [h1])
    have f2 : w.cell? ⟨b, o9 + x * 8 + 3, none⟩ = some (.int .i64 (-1)) := (hx x hx' 3 (by decide)).trans (by have h2' : nxG L x 3 = -1 := h2; rw [h2'])
    have WT : Hid (Calls Tryd.prog 22 #[.slice (some ⟨b, o9, none⟩) n cc, .int .i64 (v : Int), .int .i64 (1 : Int), .int .i64 (x : Int), .int .i64 o] w fun r w' => (∃ A c, r = .returned (.slice A n c) ∧ OwnG w' w.heap.size (.slice A n c) (joinG L v 1 x o) n) ∧ Below w.heap.size w w') := Lib.hid (refWith (.slice (some ⟨b, o9, none⟩) n cc) L (joinG L v 1 x o) n 1 v x o w HL.out (by omega) (by decide) (laid_join o HL.out.1 hv hx' (by decide)))
    clear h1 h2 hx
    go_enter Tryd.func30, Tryd.ntmps30
    go_wp2_with (go_at_call 22; refine WT.out.mono ?_; rintro e w1 ⟨⟨A1, c1, rfl, h9⟩, b9⟩; have O9 := Lib.hid h9; have B9 := Lib.hid b9; clear h9 b9)
    go_ret2
    exact ⟨⟨_, _, rfl, O9.out⟩, B9.out⟩
  · show Calls Tryd.prog 30 #[_, .int .i64 (v : Int), .int .i64 (2 : Int), .int .i64 (x : Int), .int .i64 o] w _
    have f1 : w.cell? ⟨b, o9 + v * 8 + 2, none⟩ = some (.int .i64 (-1)) := (hx v hv 2 (by decide)).trans (by rw [h1])
    have f2 : w.cell? ⟨b, o9 + x * 8, none⟩ = some (.int .i64 (-1)) := (hx x hx' 0 (by decide)).trans (by have h2' : nxG L x 0 = -1 := h2; rw [h2'])
    have WT : Hid (Calls Tryd.prog 22 #[.slice (some ⟨b, o9, none⟩) n cc, .int .i64 (v : Int), .int .i64 (2 : Int), .int .i64 (x : Int), .int .i64 o] w fun r w' => (∃ A c, r = .returned (.slice A n c) ∧ OwnG w' w.heap.size (.slice A n c) (joinG L v 2 x o) n) ∧ Below w.heap.size w w') := Lib.hid (refWith (.slice (some ⟨b, o9, none⟩) n cc) L (joinG L v 2 x o) n 2 v x o w HL.out (by omega) (by decide) (laid_join o HL.out.1 hv hx' (by decide)))
    clear h1 h2 hx
    go_enter Tryd.func30, Tryd.ntmps30
    go_wp2_with (go_at_call 22; refine WT.out.mono ?_; rintro e w1 ⟨⟨A1, c1, rfl, h9⟩, b9⟩; have O9 := Lib.hid h9; have B9 := Lib.hid b9; clear h9 b9)
    go_ret2
    exact ⟨⟨_, _, rfl, O9.out⟩, B9.out⟩
  · show Calls Tryd.prog 30 #[_, .int .i64 (v : Int), .int .i64 (3 : Int), .int .i64 (x : Int), .int .i64 o] w _
    have f1 : w.cell? ⟨b, o9 + v * 8 + 3, none⟩ = some (.int .i64 (-1)) := (hx v hv 3 (by decide)).trans (by rw [h1])
    have f2 : w.cell? ⟨b, o9 + x * 8 + 1, none⟩ = some (.int .i64 (-1)) := (hx x hx' 1 (by decide)).trans (by have h2' : nxG L x 1 = -1 := h2; rw [h2'])
    have WT : Hid (Calls Tryd.prog 22 #[.slice (some ⟨b, o9, none⟩) n cc, .int .i64 (v : Int), .int .i64 (3 : Int), .int .i64 (x : Int), .int .i64 o] w fun r w' => (∃ A c, r = .returned (.slice A n c) ∧ OwnG w' w.heap.size (.slice A n c) (joinG L v 3 x o) n) ∧ Below w.heap.size w w') := Lib.hid (refWith (.slice (some ⟨b, o9, none⟩) n cc) L (joinG L v 3 x o) n 3 v x o w HL.out (by omega) (by decide) (laid_join o HL.out.1 hv hx' (by decide)))
    clear h1 h2 hx
    go_enter Tryd.func30, Tryd.ntmps30
    go_wp2_with (go_at_call 22; refine WT.out.mono ?_; rintro e w1 ⟨⟨A1, c1, rfl, h9⟩, b9⟩; have O9 := Lib.hid h9; have B9 := Lib.hid b9; clear h9 b9)
    go_ret2
    exact ⟨⟨_, _, rfl, O9.out⟩, B9.out⟩
set_option maxHeartbeats 8000000 in
set_option maxRecDepth 100000 in
theorem refSplit_no (lv : Value) (L : List Int) (n v d : Nat) (w : World) (hL : CelAt w lv L n) (hv : v < n) (hd : d < 4) (h1 : nxG L v d = -1) :
    Calls Tryd.prog 18 #[lv, .int .i64 v, .int .i64 d] w fun r w' => r = .returned (.tuple #[lv, .int .i64 0, .int .i64 9]) ∧ Below w.heap.size w w' := by
  have HL := Lib.hid hL
  obtain ⟨A0, c0, e⟩ := hL.form
  subst e
  obtain ⟨b, o9, c', e, hb, -, -⟩ := hL.nth hv
  simp only [Value.slice.injEq, true_and] at e
  obtain ⟨e1, e2⟩ := e
  subst e1
  obtain ⟨cc, hcc⟩ : ∃ x, x = c0 := ⟨_, rfl⟩
  rw [← hcc] at HL ⊢
  clear e2 hcc hL
  have hx : ∀ i, i < n → ∀ e, e < 4 → w.cell? ⟨b, o9 + i * 8 + e, none⟩ = some (.int .i64 (nxG L i e)) := by
    intro i hi e he
    obtain ⟨b', o', c', e', _, h1, _⟩ := HL.out.nth hi
    simp only [Value.slice.injEq, Option.some.injEq, Addr.mk.injEq, true_and, and_true] at e'
    obtain ⟨⟨rfl, rfl⟩, rfl⟩ := e'
    exact h1 e he
  have q0 : decide ((v : Int) < 0) = false := by rw [decide_eq_false_iff_not]; omega
  have q1 : decide ((n : Int) ≤ (v : Int)) = false := by rw [decide_eq_false_iff_not]; omega
  have q1' : decide (n ≤ v) = false := by rw [decide_eq_false_iff_not]; omega
  have hdc : d = 0 ∨ d = 1 ∨ d = 2 ∨ d = 3 := by omega
  clear hd
  rcases hdc with rfl | rfl | rfl | rfl
  · show Calls Tryd.prog 18 #[_, .int .i64 (v : Int), .int .i64 (0 : Int)] w _
    have f1 : w.cell? ⟨b, o9 + v * 8, none⟩ = some (.int .i64 (-1)) := (hx v hv 0 (by decide)).trans (by rw [h1])
    clear h1 hx
    go_enter Tryd.func18, Tryd.ntmps18
    go_wp2
    go_ret3
    exact ⟨rfl, Below.refl _ _⟩
  · show Calls Tryd.prog 18 #[_, .int .i64 (v : Int), .int .i64 (1 : Int)] w _
    have f1 : w.cell? ⟨b, o9 + v * 8 + 1, none⟩ = some (.int .i64 (-1)) := (hx v hv 1 (by decide)).trans (by rw [h1])
    clear h1 hx
    go_enter Tryd.func18, Tryd.ntmps18
    go_wp2
    go_ret3
    exact ⟨rfl, Below.refl _ _⟩
  · show Calls Tryd.prog 18 #[_, .int .i64 (v : Int), .int .i64 (2 : Int)] w _
    have f1 : w.cell? ⟨b, o9 + v * 8 + 2, none⟩ = some (.int .i64 (-1)) := (hx v hv 2 (by decide)).trans (by rw [h1])
    clear h1 hx
    go_enter Tryd.func18, Tryd.ntmps18
    go_wp2
    go_ret3
    exact ⟨rfl, Below.refl _ _⟩
  · show Calls Tryd.prog 18 #[_, .int .i64 (v : Int), .int .i64 (3 : Int)] w _
    have f1 : w.cell? ⟨b, o9 + v * 8 + 3, none⟩ = some (.int .i64 (-1)) := (hx v hv 3 (by decide)).trans (by rw [h1])
    clear h1 hx
    go_enter Tryd.func18, Tryd.ntmps18
    go_wp2
    go_ret3
    exact ⟨rfl, Below.refl _ _⟩
set_option maxHeartbeats 8000000 in
set_option maxRecDepth 100000 in
theorem refSplit_full (lv : Value) (L : List Int) (n v d x : Nat) (w : World) (hL : CelAt w lv L n) (hn : n ≤ 10000) (hv : v < n) (hd : d < 4) (h1 : nxG L v d = x) (hf : 4096 ≤ n) :
    Calls Tryd.prog 18 #[lv, .int .i64 v, .int .i64 d] w fun r w' => r = .returned (.tuple #[lv, .int .i64 0, .int .i64 6]) ∧ Below w.heap.size w w' := by
  have HL := Lib.hid hL
  obtain ⟨A0, c0, e⟩ := hL.form
  subst e
  obtain ⟨b, o9, c', e, hb, -, -⟩ := hL.nth hv
  simp only [Value.slice.injEq, true_and] at e
  obtain ⟨e1, e2⟩ := e
  subst e1
  obtain ⟨cc, hcc⟩ : ∃ x, x = c0 := ⟨_, rfl⟩
  rw [← hcc] at HL ⊢
  clear e2 hcc hL
  have hx : ∀ i, i < n → ∀ e, e < 4 → w.cell? ⟨b, o9 + i * 8 + e, none⟩ = some (.int .i64 (nxG L i e)) := by
    intro i hi e he
    obtain ⟨b', o', c', e', _, h1, _⟩ := HL.out.nth hi
    simp only [Value.slice.injEq, Option.some.injEq, Addr.mk.injEq, true_and, and_true] at e'
    obtain ⟨⟨rfl, rfl⟩, rfl⟩ := e'
    exact h1 e he
  have q0 : decide ((v : Int) < 0) = false := by rw [decide_eq_false_iff_not]; omega
  have q1 : decide ((n : Int) ≤ (v : Int)) = false := by rw [decide_eq_false_iff_not]; omega
  have q1' : decide (n ≤ v) = false := by rw [decide_eq_false_iff_not]; omega
  have hdc : d = 0 ∨ d = 1 ∨ d = 2 ∨ d = 3 := by omega
  clear hd
  rcases hdc with rfl | rfl | rfl | rfl
  · show Calls Tryd.prog 18 #[_, .int .i64 (v : Int), .int .i64 (0 : Int)] w _
    have f1 : w.cell? ⟨b, o9 + v * 8, none⟩ = some (.int .i64 (x : Int)) := (hx v hv 0 (by decide)).trans (by rw [h1])
    have q5 : ((x : Int) == -1) = false := by rw [beq_eq_false_iff_ne]; omega
    have q6 : decide ((4096 : Int) ≤ (n : Int)) = true := by rw [decide_eq_true_eq]; omega
    have q6' : decide (4096 ≤ n) = true := by rw [decide_eq_true_eq]; omega
    clear h1 hx
    go_enter Tryd.func18, Tryd.ntmps18
    go_wp2
    go_ret3
    exact ⟨rfl, Below.refl _ _⟩
  · show Calls Tryd.prog 18 #[_, .int .i64 (v : Int), .int .i64 (1 : Int)] w _
    have f1 : w.cell? ⟨b, o9 + v * 8 + 1, none⟩ = some (.int .i64 (x : Int)) := (hx v hv 1 (by decide)).trans (by rw [h1])
    have q5 : ((x : Int) == -1) = false := by rw [beq_eq_false_iff_ne]; omega
    have q6 : decide ((4096 : Int) ≤ (n : Int)) = true := by rw [decide_eq_true_eq]; omega
    have q6' : decide (4096 ≤ n) = true := by rw [decide_eq_true_eq]; omega
    clear h1 hx
    go_enter Tryd.func18, Tryd.ntmps18
    go_wp2
    go_ret3
    exact ⟨rfl, Below.refl _ _⟩
  · show Calls Tryd.prog 18 #[_, .int .i64 (v : Int), .int .i64 (2 : Int)] w _
    have f1 : w.cell? ⟨b, o9 + v * 8 + 2, none⟩ = some (.int .i64 (x : Int)) := (hx v hv 2 (by decide)).trans (by rw [h1])
    have q5 : ((x : Int) == -1) = false := by rw [beq_eq_false_iff_ne]; omega
    have q6 : decide ((4096 : Int) ≤ (n : Int)) = true := by rw [decide_eq_true_eq]; omega
    have q6' : decide (4096 ≤ n) = true := by rw [decide_eq_true_eq]; omega
    clear h1 hx
    go_enter Tryd.func18, Tryd.ntmps18
    go_wp2
    go_ret3
    exact ⟨rfl, Below.refl _ _⟩
  · show Calls Tryd.prog 18 #[_, .int .i64 (v : Int), .int .i64 (3 : Int)] w _
    have f1 : w.cell? ⟨b, o9 + v * 8 + 3, none⟩ = some (.int .i64 (x : Int)) := (hx v hv 3 (by decide)).trans (by rw [h1])
    have q5 : ((x : Int) == -1) = false := by rw [beq_eq_false_iff_ne]; omega
    have q6 : decide ((4096 : Int) ≤ (n : Int)) = true := by rw [decide_eq_true_eq]; omega
    have q6' : decide (4096 ≤ n) = true := by rw [decide_eq_true_eq]; omega
    clear h1 hx
    go_enter Tryd.func18, Tryd.ntmps18
    go_wp2
    go_ret3
    exact ⟨rfl, Below.refl _ _⟩
end Go.Proofs.YtbdkkkpgjcfdgaaDoor

namespace Go.Proofs.YtbdkkkpgjcfdgaaDoor
open Go.RowKit Go.Proofs.YtbdkkkpgjcfdgaaDoor.GrM

/-- What a join is: the error, the cells then. -/
noncomputable def joiO (L : List Int) (n : Nat) (x d y o : Int) : Int × List Int := open Classical in
  if badJ n x d y o then (2, L) else if nxG L x.toNat d.toNat ≠ -1 ∨ nxG L y.toNat (opp d.toNat) ≠ -1 then (9, L) else (0, joinG L x.toNat d.toNat y.toNat o)
theorem joi_good {L : List Int} {n : Nat} {x d y o : Int} (hl : L.length = n * 8) (hg : GoodG L n) : GoodG (joiO L n x d y o).2 n := by
  unfold joiO
  by_cases hb : badJ n x d y o
  · rw [if_pos hb]; exact hg
  · rw [if_neg hb]
    by_cases h1 : nxG L x.toNat d.toNat ≠ -1 ∨ nxG L y.toNat (opp d.toNat) ≠ -1
    · rw [if_pos h1]; exact hg
    · rw [if_neg h1]
      unfold badJ at hb
      simp only [not_or, Decidable.not_not] at h1
      exact join_good hl hg (by omega) (by omega) (by omega) (by omega) (by omega) h1.1 h1.2
/-- A list that the reference hands on: the old one, or a new one. -/
def LstR (lv : Value) (M : List Int) (m : Nat) (w : World) (v : Value) (w' : World) : Prop :=
  OwnG w' 0 v M m ∧ (∀ b, v.ownBlock = some b → lv.ownBlock = some b ∨ w.heap.size ≤ b) ∧ Below w.heap.size w w'
theorem LstR.same {w w' : World} {lv : Value} {L : List Int} {n : Nat} (h : OwnG w 0 lv L n) (hb : Below w.heap.size w w') : LstR lv L n w lv w' :=
  ⟨h.below hb (Nat.le_refl _), fun _ e => Or.inl e, hb⟩
theorem LstR.new {w w' : World} {lv v : Value} {M : List Int} {m : Nat} (h : OwnG w' w.heap.size v M m) (hb : Below w.heap.size w w') : LstR lv M m w v w' :=
  ⟨h.base (Nat.zero_le _), fun b e => Or.inr (World.ownsRow.lt h b e).1, hb⟩
def RJoiAny (lv : Value) (r : Int × List Int) (n : Nat) (w : World) (e : Ending) (w' : World) : Prop :=
  ∃ A c, e = .returned (.tuple #[.slice A n c, .int .i64 r.1]) ∧ LstR lv r.2 n w (.slice A n c) w'
theorem refJoinAny {w : World} {n : Nat} {lv : Value} {L : List Int} (h : OwnG w 0 lv L n) (hn : n ≤ 10000) (x d y o : Int) :
    Calls Tryd.prog 30 #[lv, .int .i64 x, .int .i64 d, .int .i64 y, .int .i64 o] w (RJoiAny lv (joiO L n x d y o) n w) := by
  unfold joiO
  obtain ⟨A, c, rfl⟩ := h.form
  by_cases hb : badJ n x d y o
  · rw [if_pos hb]
    exact (refJoin_arg A n c x d y o w hb).mono fun e w' ⟨a, b⟩ => ⟨A, c, a, LstR.same h b⟩
  · rw [if_neg hb]
    unfold badJ at hb
    obtain ⟨a, rfl⟩ : ∃ a : Nat, x = a := ⟨x.toNat, by omega⟩
    obtain ⟨f, rfl⟩ : ∃ c : Nat, d = c := ⟨d.toNat, by omega⟩
    obtain ⟨g, rfl⟩ : ∃ f : Nat, y = f := ⟨y.toNat, by omega⟩
    rw [Int.toNat_natCast, Int.toNat_natCast, Int.toNat_natCast]
    by_cases h1 : nxG L a f ≠ -1 ∨ nxG L g (opp f) ≠ -1
    · rw [if_pos h1]
      exact (refJoin_no _ L n a f g o w h.cel (by omega) (by omega) (by omega) (by omega) (by omega) h1).mono fun e w' ⟨a, b⟩ => ⟨A, c, a, LstR.same h b⟩
    · rw [if_neg h1]
      simp only [not_or, Decidable.not_not] at h1
      exact (refJoin_yes _ L n a f g o w h.cel (by omega) (by omega) (by omega) (by omega) (by omega) (by omega) h1.1 h1.2).mono fun e w' ⟨⟨A', c', a, o⟩, b⟩ => ⟨A', c', a, LstR.new o b⟩
end Go.Proofs.YtbdkkkpgjcfdgaaDoor

namespace Go.Proofs.YtbdkkkpgjcfdgaaDoor
open Go.RowKit Go.Proofs.YtbdkkkpgjcfdgaaDoor.GrM

theorem free_cells {w : World} {g : Nat} {T : TypeId} (h : w.heap[g]? = some (.cells #[.int .i64 (-1), .int .i64 (-1), .int .i64 (-1), .int .i64 (-1), .int .i64 0, .int .i64 0, .int .i64 0, .int .i64 0] T (0, 0))) : ∀ j z, (freeC.map intV)[j]? = some z → w.cell? ((⟨g, 0, none⟩ : Addr).add j) = some z := by
  intro j z hz
  have e : (⟨g, 0, none⟩ : Addr).add j = ⟨g, j, none⟩ := by unfold Addr.add; split <;> simp_all
  rw [e]
  simp only [World.cell?, h]
  match j, hz with
  | 0, hz => simpa [intV, freeC] using hz
  | 1, hz => simpa [intV, freeC] using hz
  | 2, hz => simpa [intV, freeC] using hz
  | 3, hz => simpa [intV, freeC] using hz
  | 4, hz => simpa [intV, freeC] using hz
  | 5, hz => simpa [intV, freeC] using hz
  | 6, hz => simpa [intV, freeC] using hz
  | 7, hz => simpa [intV, freeC] using hz
  | j + 8, hz => simp [freeC] at hz
/-- The one cell of New(1). -/
theorem eight_of {w : World} {B g : Nat} (h : OwnG w B (.slice (some ⟨g, 0, none⟩) 1 1) (newG 1) 1) : w.cell? ⟨g, 0, none⟩ = some (.int .i64 (-1)) ∧ w.cell? ⟨g, 1, none⟩ = some (.int .i64 (-1)) ∧ w.cell? ⟨g, 2, none⟩ = some (.int .i64 (-1)) ∧ w.cell? ⟨g, 3, none⟩ = some (.int .i64 (-1)) ∧
    w.cell? ⟨g, 4, none⟩ = some (.int .i64 0) ∧ w.cell? ⟨g, 5, none⟩ = some (.int .i64 0) ∧ w.cell? ⟨g, 6, none⟩ = some (.int .i64 0) ∧ w.cell? ⟨g, 7, none⟩ = some (.int .i64 0) ∧ g < w.heap.size := by
  have e : ∀ j, j < 8 → w.cell? ⟨g, j, none⟩ = ((newG 1).map intV)[j]? := fun j hj => World.ownsRow.cellAt h j (by omega)
  exact ⟨e 0 (by decide), e 1 (by decide), e 2 (by decide), e 3 (by decide), e 4 (by decide), e 5 (by decide), e 6 (by decide), e 7 (by decide), (World.ownsRow.lt h g rfl).2⟩
set_option maxHeartbeats 16000000 in
set_option maxRecDepth 100000 in
theorem refSplit_yes (lv : Value) (L : List Int) (n v d x : Nat) (o : Int) (w : World) (hL : CelAt w lv L n) (hn : n < 4096) (hv : v < n) (hxn : x < n) (hd : d < 4) (h1 : nxG L v d = x) (h2 : owG L v d = o) :
    Calls Tryd.prog 18 #[lv, .int .i64 v, .int .i64 d] w fun r w' => (∃ A c, r = .returned (.tuple #[.slice A (n + 1) c, .int .i64 n, .int .i64 0]) ∧ OwnG w' w.heap.size (.slice A (n + 1) c) (splitG L n v d x o) (n + 1)) ∧ Below w.heap.size w w' := by
  have HL := Lib.hid hL
  obtain ⟨A0, c0, e⟩ := hL.form
  subst e
  obtain ⟨b, o9, c', e, hb, -, -⟩ := hL.nth hv
  simp only [Value.slice.injEq, true_and] at e
  obtain ⟨e1, e2⟩ := e
  subst e1
  obtain ⟨cc, hcc⟩ : ∃ x, x = c0 := ⟨_, rfl⟩
  rw [← hcc] at HL ⊢
  clear e2 hcc hL
  have hx : ∀ i, i < n → ∀ e, e < 4 → w.cell? ⟨b, o9 + i * 8 + e, none⟩ = some (.int .i64 (nxG L i e)) := by
    intro i hi e he
    obtain ⟨b', o', c', e', _, h1, _⟩ := HL.out.nth hi
    simp only [Value.slice.injEq, Option.some.injEq, Addr.mk.injEq, true_and, and_true] at e'
    obtain ⟨⟨rfl, rfl⟩, rfl⟩ := e'
    exact h1 e he
  have hy : ∀ i, i < n → ∀ e, e < 4 → w.cell? ⟨b, o9 + i * 8 + 4 + e, none⟩ = some (.int .i64 (owG L i e)) := by
    intro i hi e he
    obtain ⟨b', o', c', e', _, _, h1⟩ := HL.out.nth hi
    simp only [Value.slice.injEq, Option.some.injEq, Addr.mk.injEq, true_and, and_true] at e'
    obtain ⟨⟨rfl, rfl⟩, rfl⟩ := e'
    exact h1 e he
  have q0 : decide ((v : Int) < 0) = false := by rw [decide_eq_false_iff_not]; omega
  have q1 : decide ((n : Int) ≤ (v : Int)) = false := by rw [decide_eq_false_iff_not]; omega
  have q1' : decide (n ≤ v) = false := by rw [decide_eq_false_iff_not]; omega
  have q5 : ((x : Int) == -1) = false := by rw [beq_eq_false_iff_ne]; omega
  have q6 : decide ((4096 : Int) ≤ (n : Int)) = false := by rw [decide_eq_false_iff_not]; omega
  have q6' : decide (4096 ≤ n) = false := by rw [decide_eq_false_iff_not]; omega
  have NW : Hid (∀ wx, Calls Tryd.prog 19 #[.int .i64 1] wx fun r w' => (∃ g, r = .returned (.slice (some ⟨g, 0, none⟩) 1 1) ∧ OwnG w' wx.heap.size (.slice (some ⟨g, 0, none⟩) 1 1) (newG 1) 1) ∧ Below wx.heap.size wx w') := Lib.hid (fun wx => refNew 1 wx (by decide))
  obtain ⟨i0, hi, hz0, hz1, hz2⟩ := info_c8
  have hdc : d = 0 ∨ d = 1 ∨ d = 2 ∨ d = 3 := by omega
  clear hd
  rcases hdc with rfl | rfl | rfl | rfl
  · show Calls Tryd.prog 18 #[_, .int .i64 (v : Int), .int .i64 (0 : Int)] w _
    have f1 : w.cell? ⟨b, o9 + v * 8, none⟩ = some (.int .i64 (x : Int)) := (hx v hv 0 (by decide)).trans (by rw [h1])
    have f2 : w.cell? ⟨b, o9 + v * 8 + 4, none⟩ = some (.int .i64 o) := (hy v hv 0 (by decide)).trans (by rw [h2])
    have W1 : Hid (∀ wx A c, Below w.heap.size w wx → OwnG wx w.heap.size (.slice A (n + 1) c) (L ++ freeC) (n + 1) → Calls Tryd.prog 22 #[.slice A (n + 1) c, .int .i64 (v : Int), .int .i64 (0 : Int), .int .i64 (n : Int), .int .i64 o] wx fun r w' => (∃ A c, r = .returned (.slice A (n + 1) c) ∧ OwnG w' wx.heap.size (.slice A (n + 1) c) (joinG (L ++ freeC) v 0 n o) (n + 1)) ∧ Below wx.heap.size wx w') := Lib.hid (fun wx A c hb9 ho => refWith _ (L ++ freeC) _ (n + 1) 0 v n o wx ho.cel (by omega) (by decide) (laid_join o ho.len (by omega) (by omega) (by decide)))
    have W2 : Hid (∀ wx A c, OwnG wx w.heap.size (.slice A (n + 1) c) (joinG (L ++ freeC) v 0 n o) (n + 1) → Calls Tryd.prog 22 #[.slice A (n + 1) c, .int .i64 (n : Int), .int .i64 (0 : Int), .int .i64 (x : Int), .int .i64 o] wx fun r w' => (∃ A c, r = .returned (.slice A (n + 1) c) ∧ OwnG w' wx.heap.size (.slice A (n + 1) c) (splitG L n v 0 x o) (n + 1)) ∧ Below wx.heap.size wx w') := Lib.hid (fun wx A c ho => refWith _ _ _ (n + 1) 0 n x o wx ho.cel (by omega) (by decide) (laid_join o ho.len (by omega) (by omega) (by decide)))
    clear h1 h2 hx hy
    go_enter Tryd.func18, Tryd.ntmps18
    go_upto_region 11 with (go_at_call 19; refine (NW.out _).mono ?_; rintro e w2 ⟨⟨g, rfl, h9⟩, b9⟩; have O2 := Lib.hid h9; have B2 := Lib.hid b9; clear h9 b9)
    clear f1 f2
    have XM := Lib.hid (fun wx (hb9 : Below w2.heap.size w2 wx) => eight_of (O2.out.below hb9 (Nat.le_refl _)))
    have WT : Hid (∀ wx, Below w2.heap.size w2 wx → Calls Tryd.prog 22 #[.slice (some ⟨b, o9, none⟩) n cc, .int .i64 (-1), .int .i64 0, .int .i64 (-1), .int .i64 0] wx fun r w' => (∃ A c, r = .returned (.slice A n c) ∧ OwnG w' wx.heap.size (.slice A n c) L n) ∧ Below wx.heap.size wx w') := Lib.hid (fun wx hb9 => refWith (.slice (some ⟨b, o9, none⟩) n cc) L L n 0 (-1) (-1) 0 wx (HL.out.below (B2.out.trans (hb9.mono B2.out.size)) (Nat.le_refl _)) (by omega) (by decide) (laid_copy 0 HL.out.1))
    go_cut [0, 60] from 54 to 60 (fun s0 _ wx => ∃ A k, s0 = .slice A (n + 1) k ∧ OwnG wx w2.heap.size (.slice A (n + 1) k) (L ++ freeC) (n + 1) ∧ Below w2.heap.size w2 wx)
    case first =>
      refine wp_region_held_drew (S := fun w' => Below w2.heap.size w2 w') (by kernel_rfl) (Below.refl _ _).drew (fun hHeld => ?_)
      refine wpAnyH_take (i := 0) (v := ?_) rfl (by kernel_rfl) (by kernel_rfl) (by kernel_rfl) (fun _ _ _ h => h) (Or.inl ⟨by rfl, ?_⟩) (by assumption) ?_
      rotate_left
      · (intro w' hSw; obtain ⟨s0, s1, s2, s3, s4, s5, s6, s7, sl⟩ := XM.out w' hSw; clear hSw; go_simp; try with_reducible rfl)
      refine wpAnyH_take (i := 2) (v := ?_) rfl (by kernel_rfl) (by kernel_rfl) (by kernel_rfl) (fun _ _ _ h => h) (Or.inl ⟨by rfl, ?_⟩) (by assumption) ?_
      rotate_left
      · (intro w' hSw; obtain ⟨s0, s1, s2, s3, s4, s5, s6, s7, sl⟩ := XM.out w' hSw; clear hSw; go_simp; try with_reducible rfl)
      refine wpAnyH_take (i := 3) (v := ?_) rfl (by kernel_rfl) (by kernel_rfl) (by kernel_rfl) (fun _ _ _ h => h) (Or.inl ⟨by rfl, ?_⟩) (by assumption) ?_
      rotate_left
      · (intro w' hSw; obtain ⟨s0, s1, s2, s3, s4, s5, s6, s7, sl⟩ := XM.out w' hSw; clear hSw; go_simp; try with_reducible rfl)
      refine wpAnyH_take (i := 4) (v := ?_) rfl (by kernel_rfl) (by kernel_rfl) (by kernel_rfl) (fun _ _ _ h => h) (Or.inl ⟨by rfl, ?_⟩) (by assumption) ?_
      rotate_left
      · (intro w' hSw; obtain ⟨s0, s1, s2, s3, s4, s5, s6, s7, sl⟩ := XM.out w' hSw; clear hSw; go_simp; try with_reducible rfl)
      have BD0 : Hid (Below w2.heap.size w2 (World.drew w2)) := Lib.hid hHeld
      generalize World.drew w2 = u0 at *
      clear hHeld
      refine wpAnyH_ready (rs := [1, 5]) (by kernel_rfl) (by simp) ?_
      refine AllReadyH.cons rfl (fun K hK => ?_) (AllReadyH.cons rfl (fun K hK => ?_) AllReadyH.nil)
      · go_simp
        refine (WT.out _ BD0.out).mono ?_
        rintro e u1 ⟨⟨A1, k1, rfl, h9⟩, hb9⟩
        have BD1 := Lib.hid (BD0.out.trans (hb9.mono BD0.out.size))
        have OC_1 := Lib.hid (h9.base BD0.out.size)
        clear h9 hb9
        refine hK.out _ _ BD1.out (fun _ => ?_)
        clear hK K
        refine wpAnyH_ready (rs := [5]) (by kernel_rfl) (by simp) ?_
        refine AllReadyH.cons rfl (fun K hK => ?_) AllReadyH.nil
        go_simp
        generalize hw9 : World.alloc u1 _ = u2
        have hb9 : Below u1.heap.size u1 u2 := by rw [← hw9]; exact (Below.refl _ _).alloc (Nat.le_refl _) _
        have NB_2 : Hid (u2.heap[u1.heap.size]? = some (.cells #[.int .i64 (-1), .int .i64 (-1), .int .i64 (-1), .int .i64 (-1), .int .i64 0, .int .i64 0, .int .i64 0, .int .i64 0] 54 (0, 0))) := Lib.hid (by rw [← hw9]; exact heap_alloc_new u1 _)
        have BD2 := Lib.hid (BD1.out.trans (hb9.mono BD1.out.size))
        have OC_2 := Lib.hid (OC_1.out.below hb9 (Nat.le_refl _))
        clear hw9 hb9
        refine hK.out _ _ BD2.out (fun _ => ?_)
        clear hK K
        refine wpAnyH_ready (rs := [6]) (by kernel_rfl) (by simp) ?_
        refine AllReadyH.cons rfl (fun K hK => ?_) AllReadyH.nil
        refine step_append_fresh rfl (.tmp 55) (.tmp 59) 30 rfl w2.heap.size 54 i0 (.agg #[.int .i64 0, .int .i64 0, .int .i64 0, .int .i64 0, .int .i64 0, .int .i64 0, .int .i64 0, .int .i64 0]) 8 64 Tryd.underlying30 hi hz0 hz1 hz2 rfl (by decide) (.slice A1 n k1) n (L.map intV) rfl OC_2.out ⟨u1.heap.size, 0, none⟩ 1 1 (freeC.map intV) rfl rfl (free_cells NB_2.out) (allI _) (by unfold maxLen; omega) (by omega) BD2.out.size ?_
        intro v3 u3 hown hgrow hfr
        have o3 := OwnG.more hown
        obtain ⟨A2, k2, e2⟩ := o3.form
        subst e2
        have hb9 : Below w2.heap.size w2 u3 := BD2.out.grown hgrow BD2.out.size (fun q hq => (World.ownsRow.lt OC_2.out q hq).1)
        have O3 := Lib.hid o3
        have BD3 := Lib.hid hb9
        clear hown hgrow hfr o3 hb9
        refine hK.out _ _ BD3.out (fun _ => ?_)
        clear hK K
        refine wpAnyH_ready (rs := [7]) (by kernel_rfl) (by simp) ?_
        refine AllReadyH.cons rfl (fun K hK => ?_) AllReadyH.nil
        go_simp
        refine hK.out _ _ BD3.out (fun _ => ?_)
        clear hK K
        refine wpAnyH_done (by kernel_rfl) ?_ _
        go_wp2
        go_meet
        exact ⟨A2, k2, rfl, O3.out, BD3.out⟩
      · go_simp
        generalize hw9 : World.alloc u0 _ = u1
        have hb9 : Below u0.heap.size u0 u1 := by rw [← hw9]; exact (Below.refl _ _).alloc (Nat.le_refl _) _
        have NB_1 : Hid (u1.heap[u0.heap.size]? = some (.cells #[.int .i64 (-1), .int .i64 (-1), .int .i64 (-1), .int .i64 (-1), .int .i64 0, .int .i64 0, .int .i64 0, .int .i64 0] 54 (0, 0))) := Lib.hid (by rw [← hw9]; exact heap_alloc_new u0 _)
        have BD1 := Lib.hid (BD0.out.trans (hb9.mono BD0.out.size))
        clear hw9 hb9
        refine hK.out _ _ BD1.out (fun _ => ?_)
        clear hK K
        refine wpAnyH_ready (rs := [1]) (by kernel_rfl) (by simp) ?_
        refine AllReadyH.cons rfl (fun K hK => ?_) AllReadyH.nil
        go_simp
        refine (WT.out _ BD1.out).mono ?_
        rintro e u2 ⟨⟨A1, k1, rfl, h9⟩, hb9⟩
        have BD2 := Lib.hid (BD1.out.trans (hb9.mono BD1.out.size))
        have OC_2 := Lib.hid (h9.base BD1.out.size)
        have NB_2 := Lib.hid ((hb9.block _ (Array.getElem?_eq_some_iff.1 NB_1.out).1).trans NB_1.out)
        clear h9 hb9
        refine hK.out _ _ BD2.out (fun _ => ?_)
        clear hK K
        refine wpAnyH_ready (rs := [6]) (by kernel_rfl) (by simp) ?_
        refine AllReadyH.cons rfl (fun K hK => ?_) AllReadyH.nil
        refine step_append_fresh rfl (.tmp 55) (.tmp 59) 30 rfl w2.heap.size 54 i0 (.agg #[.int .i64 0, .int .i64 0, .int .i64 0, .int .i64 0, .int .i64 0, .int .i64 0, .int .i64 0, .int .i64 0]) 8 64 Tryd.underlying30 hi hz0 hz1 hz2 rfl (by decide) (.slice A1 n k1) n (L.map intV) rfl OC_2.out ⟨u0.heap.size, 0, none⟩ 1 1 (freeC.map intV) rfl rfl (free_cells NB_2.out) (allI _) (by unfold maxLen; omega) (by omega) BD2.out.size ?_
        intro v3 u3 hown hgrow hfr
        have o3 := OwnG.more hown
        obtain ⟨A2, k2, e2⟩ := o3.form
        subst e2
        have hb9 : Below w2.heap.size w2 u3 := BD2.out.grown hgrow BD2.out.size (fun q hq => (World.ownsRow.lt OC_2.out q hq).1)
        have O3 := Lib.hid o3
        have BD3 := Lib.hid hb9
        clear hown hgrow hfr o3 hb9
        refine hK.out _ _ BD3.out (fun _ => ?_)
        clear hK K
        refine wpAnyH_ready (rs := [7]) (by kernel_rfl) (by simp) ?_
        refine AllReadyH.cons rfl (fun K hK => ?_) AllReadyH.nil
        go_simp
        refine hK.out _ _ BD3.out (fun _ => ?_)
        clear hK K
        refine wpAnyH_done (by kernel_rfl) ?_ _
        go_wp2
        go_meet
        exact ⟨A2, k2, rfl, O3.out, BD3.out⟩
    case rest =>
      obtain ⟨A3, k3, rfl, ho3, hb3⟩ := hcut
      have O3 := Lib.hid (ho3.base B2.out.size)
      have B3 := Lib.hid (B2.out.trans (hb3.mono B2.out.size))
      clear ho3 hb3
      go_upto_region 13 with (go_at_call 22; refine (W1.out _ _ _ B3.out O3.out).mono ?_; rintro e w4 ⟨⟨A4, k4, rfl, h9⟩, b9⟩; have B4 := Lib.hid (B3.out.trans (b9.mono B3.out.size)); have O4 := Lib.hid (h9.base B3.out.size); clear h9 b9)
      go_wp2_with (go_at_call 22; refine (W2.out _ _ _ O4.out).mono ?_; rintro e w5 ⟨⟨A5, k5, rfl, h9⟩, b9⟩; have B5 := Lib.hid (B4.out.trans (b9.mono B4.out.size)); have O5 := Lib.hid (h9.base B4.out.size); clear h9 b9)
      go_ret3
      exact ⟨⟨_, _, rfl, O5.out⟩, B5.out⟩
  · show Calls Tryd.prog 18 #[_, .int .i64 (v : Int), .int .i64 (1 : Int)] w _
    have f1 : w.cell? ⟨b, o9 + v * 8 + 1, none⟩ = some (.int .i64 (x : Int)) := (hx v hv 1 (by decide)).trans (by rw [h1])
    have f2 : w.cell? ⟨b, o9 + v * 8 + 5, none⟩ = some (.int .i64 o) := (hy v hv 1 (by decide)).trans (by rw [h2])
    have W1 : Hid (∀ wx A c, Below w.heap.size w wx → OwnG wx w.heap.size (.slice A (n + 1) c) (L ++ freeC) (n + 1) → Calls Tryd.prog 22 #[.slice A (n + 1) c, .int .i64 (v : Int), .int .i64 (1 : Int), .int .i64 (n : Int), .int .i64 o] wx fun r w' => (∃ A c, r = .returned (.slice A (n + 1) c) ∧ OwnG w' wx.heap.size (.slice A (n + 1) c) (joinG (L ++ freeC) v 1 n o) (n + 1)) ∧ Below wx.heap.size wx w') := Lib.hid (fun wx A c hb9 ho => refWith _ (L ++ freeC) _ (n + 1) 1 v n o wx ho.cel (by omega) (by decide) (laid_join o ho.len (by omega) (by omega) (by decide)))
    have W2 : Hid (∀ wx A c, OwnG wx w.heap.size (.slice A (n + 1) c) (joinG (L ++ freeC) v 1 n o) (n + 1) → Calls Tryd.prog 22 #[.slice A (n + 1) c, .int .i64 (n : Int), .int .i64 (1 : Int), .int .i64 (x : Int), .int .i64 o] wx fun r w' => (∃ A c, r = .returned (.slice A (n + 1) c) ∧ OwnG w' wx.heap.size (.slice A (n + 1) c) (splitG L n v 1 x o) (n + 1)) ∧ Below wx.heap.size wx w') := Lib.hid (fun wx A c ho => refWith _ _ _ (n + 1) 1 n x o wx ho.cel (by omega) (by decide) (laid_join o ho.len (by omega) (by omega) (by decide)))
    clear h1 h2 hx hy
    go_enter Tryd.func18, Tryd.ntmps18
    go_upto_region 11 with (go_at_call 19; refine (NW.out _).mono ?_; rintro e w2 ⟨⟨g, rfl, h9⟩, b9⟩; have O2 := Lib.hid h9; have B2 := Lib.hid b9; clear h9 b9)
    clear f1 f2
    have XM := Lib.hid (fun wx (hb9 : Below w2.heap.size w2 wx) => eight_of (O2.out.below hb9 (Nat.le_refl _)))
    have WT : Hid (∀ wx, Below w2.heap.size w2 wx → Calls Tryd.prog 22 #[.slice (some ⟨b, o9, none⟩) n cc, .int .i64 (-1), .int .i64 0, .int .i64 (-1), .int .i64 0] wx fun r w' => (∃ A c, r = .returned (.slice A n c) ∧ OwnG w' wx.heap.size (.slice A n c) L n) ∧ Below wx.heap.size wx w') := Lib.hid (fun wx hb9 => refWith (.slice (some ⟨b, o9, none⟩) n cc) L L n 0 (-1) (-1) 0 wx (HL.out.below (B2.out.trans (hb9.mono B2.out.size)) (Nat.le_refl _)) (by omega) (by decide) (laid_copy 0 HL.out.1))
    go_cut [0, 60] from 54 to 60 (fun s0 _ wx => ∃ A k, s0 = .slice A (n + 1) k ∧ OwnG wx w2.heap.size (.slice A (n + 1) k) (L ++ freeC) (n + 1) ∧ Below w2.heap.size w2 wx)
    case first =>
      refine wp_region_held_drew (S := fun w' => Below w2.heap.size w2 w') (by kernel_rfl) (Below.refl _ _).drew (fun hHeld => ?_)
      refine wpAnyH_take (i := 0) (v := ?_) rfl (by kernel_rfl) (by kernel_rfl) (by kernel_rfl) (fun _ _ _ h => h) (Or.inl ⟨by rfl, ?_⟩) (by assumption) ?_
      rotate_left
      · (intro w' hSw; obtain ⟨s0, s1, s2, s3, s4, s5, s6, s7, sl⟩ := XM.out w' hSw; clear hSw; go_simp; try with_reducible rfl)
      refine wpAnyH_take (i := 2) (v := ?_) rfl (by kernel_rfl) (by kernel_rfl) (by kernel_rfl) (fun _ _ _ h => h) (Or.inl ⟨by rfl, ?_⟩) (by assumption) ?_
      rotate_left
      · (intro w' hSw; obtain ⟨s0, s1, s2, s3, s4, s5, s6, s7, sl⟩ := XM.out w' hSw; clear hSw; go_simp; try with_reducible rfl)
      refine wpAnyH_take (i := 3) (v := ?_) rfl (by kernel_rfl) (by kernel_rfl) (by kernel_rfl) (fun _ _ _ h => h) (Or.inl ⟨by rfl, ?_⟩) (by assumption) ?_
      rotate_left
      · (intro w' hSw; obtain ⟨s0, s1, s2, s3, s4, s5, s6, s7, sl⟩ := XM.out w' hSw; clear hSw; go_simp; try with_reducible rfl)
      refine wpAnyH_take (i := 4) (v := ?_) rfl (by kernel_rfl) (by kernel_rfl) (by kernel_rfl) (fun _ _ _ h => h) (Or.inl ⟨by rfl, ?_⟩) (by assumption) ?_
      rotate_left
      · (intro w' hSw; obtain ⟨s0, s1, s2, s3, s4, s5, s6, s7, sl⟩ := XM.out w' hSw; clear hSw; go_simp; try with_reducible rfl)
      have BD0 : Hid (Below w2.heap.size w2 (World.drew w2)) := Lib.hid hHeld
      generalize World.drew w2 = u0 at *
      clear hHeld
      refine wpAnyH_ready (rs := [1, 5]) (by kernel_rfl) (by simp) ?_
      refine AllReadyH.cons rfl (fun K hK => ?_) (AllReadyH.cons rfl (fun K hK => ?_) AllReadyH.nil)
      · go_simp
        refine (WT.out _ BD0.out).mono ?_
        rintro e u1 ⟨⟨A1, k1, rfl, h9⟩, hb9⟩
        have BD1 := Lib.hid (BD0.out.trans (hb9.mono BD0.out.size))
        have OC_1 := Lib.hid (h9.base BD0.out.size)
        clear h9 hb9
        refine hK.out _ _ BD1.out (fun _ => ?_)
        clear hK K
        refine wpAnyH_ready (rs := [5]) (by kernel_rfl) (by simp) ?_
        refine AllReadyH.cons rfl (fun K hK => ?_) AllReadyH.nil
        go_simp
        generalize hw9 : World.alloc u1 _ = u2
        have hb9 : Below u1.heap.size u1 u2 := by rw [← hw9]; exact (Below.refl _ _).alloc (Nat.le_refl _) _
        have NB_2 : Hid (u2.heap[u1.heap.size]? = some (.cells #[.int .i64 (-1), .int .i64 (-1), .int .i64 (-1), .int .i64 (-1), .int .i64 0, .int .i64 0, .int .i64 0, .int .i64 0] 54 (0, 0))) := Lib.hid (by rw [← hw9]; exact heap_alloc_new u1 _)
        have BD2 := Lib.hid (BD1.out.trans (hb9.mono BD1.out.size))
        have OC_2 := Lib.hid (OC_1.out.below hb9 (Nat.le_refl _))
        clear hw9 hb9
        refine hK.out _ _ BD2.out (fun _ => ?_)
        clear hK K
        refine wpAnyH_ready (rs := [6]) (by kernel_rfl) (by simp) ?_
        refine AllReadyH.cons rfl (fun K hK => ?_) AllReadyH.nil
        refine step_append_fresh rfl (.tmp 55) (.tmp 59) 30 rfl w2.heap.size 54 i0 (.agg #[.int .i64 0, .int .i64 0, .int .i64 0, .int .i64 0, .int .i64 0, .int .i64 0, .int .i64 0, .int .i64 0]) 8 64 Tryd.underlying30 hi hz0 hz1 hz2 rfl (by decide) (.slice A1 n k1) n (L.map intV) rfl OC_2.out ⟨u1.heap.size, 0, none⟩ 1 1 (freeC.map intV) rfl rfl (free_cells NB_2.out) (allI _) (by unfold maxLen; omega) (by omega) BD2.out.size ?_
        intro v3 u3 hown hgrow hfr
        have o3 := OwnG.more hown
        obtain ⟨A2, k2, e2⟩ := o3.form
        subst e2
        have hb9 : Below w2.heap.size w2 u3 := BD2.out.grown hgrow BD2.out.size (fun q hq => (World.ownsRow.lt OC_2.out q hq).1)
        have O3 := Lib.hid o3
        have BD3 := Lib.hid hb9
        clear hown hgrow hfr o3 hb9
        refine hK.out _ _ BD3.out (fun _ => ?_)
        clear hK K
        refine wpAnyH_ready (rs := [7]) (by kernel_rfl) (by simp) ?_
        refine AllReadyH.cons rfl (fun K hK => ?_) AllReadyH.nil
        go_simp
        refine hK.out _ _ BD3.out (fun _ => ?_)
        clear hK K
        refine wpAnyH_done (by kernel_rfl) ?_ _
        go_wp2
        go_meet
        exact ⟨A2, k2, rfl, O3.out, BD3.out⟩
      · go_simp
        generalize hw9 : World.alloc u0 _ = u1
        have hb9 : Below u0.heap.size u0 u1 := by rw [← hw9]; exact (Below.refl _ _).alloc (Nat.le_refl _) _
        have NB_1 : Hid (u1.heap[u0.heap.size]? = some (.cells #[.int .i64 (-1), .int .i64 (-1), .int .i64 (-1), .int .i64 (-1), .int .i64 0, .int .i64 0, .int .i64 0, .int .i64 0] 54 (0, 0))) := Lib.hid (by rw [← hw9]; exact heap_alloc_new u0 _)
        have BD1 := Lib.hid (BD0.out.trans (hb9.mono BD0.out.size))
        clear hw9 hb9
        refine hK.out _ _ BD1.out (fun _ => ?_)
        clear hK K
        refine wpAnyH_ready (rs := [1]) (by kernel_rfl) (by simp) ?_
        refine AllReadyH.cons rfl (fun K hK => ?_) AllReadyH.nil
        go_simp
        refine (WT.out _ BD1.out).mono ?_
        rintro e u2 ⟨⟨A1, k1, rfl, h9⟩, hb9⟩
        have BD2 := Lib.hid (BD1.out.trans (hb9.mono BD1.out.size))
        have OC_2 := Lib.hid (h9.base BD1.out.size)
        have NB_2 := Lib.hid ((hb9.block _ (Array.getElem?_eq_some_iff.1 NB_1.out).1).trans NB_1.out)
        clear h9 hb9
        refine hK.out _ _ BD2.out (fun _ => ?_)
        clear hK K
        refine wpAnyH_ready (rs := [6]) (by kernel_rfl) (by simp) ?_
        refine AllReadyH.cons rfl (fun K hK => ?_) AllReadyH.nil
        refine step_append_fresh rfl (.tmp 55) (.tmp 59) 30 rfl w2.heap.size 54 i0 (.agg #[.int .i64 0, .int .i64 0, .int .i64 0, .int .i64 0, .int .i64 0, .int .i64 0, .int .i64 0, .int .i64 0]) 8 64 Tryd.underlying30 hi hz0 hz1 hz2 rfl (by decide) (.slice A1 n k1) n (L.map intV) rfl OC_2.out ⟨u0.heap.size, 0, none⟩ 1 1 (freeC.map intV) rfl rfl (free_cells NB_2.out) (allI _) (by unfold maxLen; omega) (by omega) BD2.out.size ?_
        intro v3 u3 hown hgrow hfr
        have o3 := OwnG.more hown
        obtain ⟨A2, k2, e2⟩ := o3.form
        subst e2
        have hb9 : Below w2.heap.size w2 u3 := BD2.out.grown hgrow BD2.out.size (fun q hq => (World.ownsRow.lt OC_2.out q hq).1)
        have O3 := Lib.hid o3
        have BD3 := Lib.hid hb9
        clear hown hgrow hfr o3 hb9
        refine hK.out _ _ BD3.out (fun _ => ?_)
        clear hK K
        refine wpAnyH_ready (rs := [7]) (by kernel_rfl) (by simp) ?_
        refine AllReadyH.cons rfl (fun K hK => ?_) AllReadyH.nil
        go_simp
        refine hK.out _ _ BD3.out (fun _ => ?_)
        clear hK K
        refine wpAnyH_done (by kernel_rfl) ?_ _
        go_wp2
        go_meet
        exact ⟨A2, k2, rfl, O3.out, BD3.out⟩
    case rest =>
      obtain ⟨A3, k3, rfl, ho3, hb3⟩ := hcut
      have O3 := Lib.hid (ho3.base B2.out.size)
      have B3 := Lib.hid (B2.out.trans (hb3.mono B2.out.size))
      clear ho3 hb3
      go_upto_region 13 with (go_at_call 22; refine (W1.out _ _ _ B3.out O3.out).mono ?_; rintro e w4 ⟨⟨A4, k4, rfl, h9⟩, b9⟩; have B4 := Lib.hid (B3.out.trans (b9.mono B3.out.size)); have O4 := Lib.hid (h9.base B3.out.size); clear h9 b9)
      go_wp2_with (go_at_call 22; refine (W2.out _ _ _ O4.out).mono ?_; rintro e w5 ⟨⟨A5, k5, rfl, h9⟩, b9⟩; have B5 := Lib.hid (B4.out.trans (b9.mono B4.out.size)); have O5 := Lib.hid (h9.base B4.out.size); clear h9 b9)
      go_ret3
      exact ⟨⟨_, _, rfl, O5.out⟩, B5.out⟩
  · show Calls Tryd.prog 18 #[_, .int .i64 (v : Int), .int .i64 (2 : Int)] w _
    have f1 : w.cell? ⟨b, o9 + v * 8 + 2, none⟩ = some (.int .i64 (x : Int)) := (hx v hv 2 (by decide)).trans (by rw [h1])
    have f2 : w.cell? ⟨b, o9 + v * 8 + 6, none⟩ = some (.int .i64 o) := (hy v hv 2 (by decide)).trans (by rw [h2])
    have W1 : Hid (∀ wx A c, Below w.heap.size w wx → OwnG wx w.heap.size (.slice A (n + 1) c) (L ++ freeC) (n + 1) → Calls Tryd.prog 22 #[.slice A (n + 1) c, .int .i64 (v : Int), .int .i64 (2 : Int), .int .i64 (n : Int), .int .i64 o] wx fun r w' => (∃ A c, r = .returned (.slice A (n + 1) c) ∧ OwnG w' wx.heap.size (.slice A (n + 1) c) (joinG (L ++ freeC) v 2 n o) (n + 1)) ∧ Below wx.heap.size wx w') := Lib.hid (fun wx A c hb9 ho => refWith _ (L ++ freeC) _ (n + 1) 2 v n o wx ho.cel (by omega) (by decide) (laid_join o ho.len (by omega) (by omega) (by decide)))
    have W2 : Hid (∀ wx A c, OwnG wx w.heap.size (.slice A (n + 1) c) (joinG (L ++ freeC) v 2 n o) (n + 1) → Calls Tryd.prog 22 #[.slice A (n + 1) c, .int .i64 (n : Int), .int .i64 (2 : Int), .int .i64 (x : Int), .int .i64 o] wx fun r w' => (∃ A c, r = .returned (.slice A (n + 1) c) ∧ OwnG w' wx.heap.size (.slice A (n + 1) c) (splitG L n v 2 x o) (n + 1)) ∧ Below wx.heap.size wx w') := Lib.hid (fun wx A c ho => refWith _ _ _ (n + 1) 2 n x o wx ho.cel (by omega) (by decide) (laid_join o ho.len (by omega) (by omega) (by decide)))
    clear h1 h2 hx hy
    go_enter Tryd.func18, Tryd.ntmps18
    go_upto_region 11 with (go_at_call 19; refine (NW.out _).mono ?_; rintro e w2 ⟨⟨g, rfl, h9⟩, b9⟩; have O2 := Lib.hid h9; have B2 := Lib.hid b9; clear h9 b9)
    clear f1 f2
    have XM := Lib.hid (fun wx (hb9 : Below w2.heap.size w2 wx) => eight_of (O2.out.below hb9 (Nat.le_refl _)))
    have WT : Hid (∀ wx, Below w2.heap.size w2 wx → Calls Tryd.prog 22 #[.slice (some ⟨b, o9, none⟩) n cc, .int .i64 (-1), .int .i64 0, .int .i64 (-1), .int .i64 0] wx fun r w' => (∃ A c, r = .returned (.slice A n c) ∧ OwnG w' wx.heap.size (.slice A n c) L n) ∧ Below wx.heap.size wx w') := Lib.hid (fun wx hb9 => refWith (.slice (some ⟨b, o9, none⟩) n cc) L L n 0 (-1) (-1) 0 wx (HL.out.below (B2.out.trans (hb9.mono B2.out.size)) (Nat.le_refl _)) (by omega) (by decide) (laid_copy 0 HL.out.1))
    go_cut [0, 60] from 54 to 60 (fun s0 _ wx => ∃ A k, s0 = .slice A (n + 1) k ∧ OwnG wx w2.heap.size (.slice A (n + 1) k) (L ++ freeC) (n + 1) ∧ Below w2.heap.size w2 wx)
    case first =>
      refine wp_region_held_drew (S := fun w' => Below w2.heap.size w2 w') (by kernel_rfl) (Below.refl _ _).drew (fun hHeld => ?_)
      refine wpAnyH_take (i := 0) (v := ?_) rfl (by kernel_rfl) (by kernel_rfl) (by kernel_rfl) (fun _ _ _ h => h) (Or.inl ⟨by rfl, ?_⟩) (by assumption) ?_
      rotate_left
      · (intro w' hSw; obtain ⟨s0, s1, s2, s3, s4, s5, s6, s7, sl⟩ := XM.out w' hSw; clear hSw; go_simp; try with_reducible rfl)
      refine wpAnyH_take (i := 2) (v := ?_) rfl (by kernel_rfl) (by kernel_rfl) (by kernel_rfl) (fun _ _ _ h => h) (Or.inl ⟨by rfl, ?_⟩) (by assumption) ?_
      rotate_left
      · (intro w' hSw; obtain ⟨s0, s1, s2, s3, s4, s5, s6, s7, sl⟩ := XM.out w' hSw; clear hSw; go_simp; try with_reducible rfl)
      refine wpAnyH_take (i := 3) (v := ?_) rfl (by kernel_rfl) (by kernel_rfl) (by kernel_rfl) (fun _ _ _ h => h) (Or.inl ⟨by rfl, ?_⟩) (by assumption) ?_
      rotate_left
      · (intro w' hSw; obtain ⟨s0, s1, s2, s3, s4, s5, s6, s7, sl⟩ := XM.out w' hSw; clear hSw; go_simp; try with_reducible rfl)
      refine wpAnyH_take (i := 4) (v := ?_) rfl (by kernel_rfl) (by kernel_rfl) (by kernel_rfl) (fun _ _ _ h => h) (Or.inl ⟨by rfl, ?_⟩) (by assumption) ?_
      rotate_left
      · (intro w' hSw; obtain ⟨s0, s1, s2, s3, s4, s5, s6, s7, sl⟩ := XM.out w' hSw; clear hSw; go_simp; try with_reducible rfl)
      have BD0 : Hid (Below w2.heap.size w2 (World.drew w2)) := Lib.hid hHeld
      generalize World.drew w2 = u0 at *
      clear hHeld
      refine wpAnyH_ready (rs := [1, 5]) (by kernel_rfl) (by simp) ?_
      refine AllReadyH.cons rfl (fun K hK => ?_) (AllReadyH.cons rfl (fun K hK => ?_) AllReadyH.nil)
      · go_simp
        refine (WT.out _ BD0.out).mono ?_
        rintro e u1 ⟨⟨A1, k1, rfl, h9⟩, hb9⟩
        have BD1 := Lib.hid (BD0.out.trans (hb9.mono BD0.out.size))
        have OC_1 := Lib.hid (h9.base BD0.out.size)
        clear h9 hb9
        refine hK.out _ _ BD1.out (fun _ => ?_)
        clear hK K
        refine wpAnyH_ready (rs := [5]) (by kernel_rfl) (by simp) ?_
        refine AllReadyH.cons rfl (fun K hK => ?_) AllReadyH.nil
        go_simp
        generalize hw9 : World.alloc u1 _ = u2
        have hb9 : Below u1.heap.size u1 u2 := by rw [← hw9]; exact (Below.refl _ _).alloc (Nat.le_refl _) _
        have NB_2 : Hid (u2.heap[u1.heap.size]? = some (.cells #[.int .i64 (-1), .int .i64 (-1), .int .i64 (-1), .int .i64 (-1), .int .i64 0, .int .i64 0, .int .i64 0, .int .i64 0] 54 (0, 0))) := Lib.hid (by rw [← hw9]; exact heap_alloc_new u1 _)
        have BD2 := Lib.hid (BD1.out.trans (hb9.mono BD1.out.size))
        have OC_2 := Lib.hid (OC_1.out.below hb9 (Nat.le_refl _))
        clear hw9 hb9
        refine hK.out _ _ BD2.out (fun _ => ?_)
        clear hK K
        refine wpAnyH_ready (rs := [6]) (by kernel_rfl) (by simp) ?_
        refine AllReadyH.cons rfl (fun K hK => ?_) AllReadyH.nil
        refine step_append_fresh rfl (.tmp 55) (.tmp 59) 30 rfl w2.heap.size 54 i0 (.agg #[.int .i64 0, .int .i64 0, .int .i64 0, .int .i64 0, .int .i64 0, .int .i64 0, .int .i64 0, .int .i64 0]) 8 64 Tryd.underlying30 hi hz0 hz1 hz2 rfl (by decide) (.slice A1 n k1) n (L.map intV) rfl OC_2.out ⟨u1.heap.size, 0, none⟩ 1 1 (freeC.map intV) rfl rfl (free_cells NB_2.out) (allI _) (by unfold maxLen; omega) (by omega) BD2.out.size ?_
        intro v3 u3 hown hgrow hfr
        have o3 := OwnG.more hown
        obtain ⟨A2, k2, e2⟩ := o3.form
        subst e2
        have hb9 : Below w2.heap.size w2 u3 := BD2.out.grown hgrow BD2.out.size (fun q hq => (World.ownsRow.lt OC_2.out q hq).1)
        have O3 := Lib.hid o3
        have BD3 := Lib.hid hb9
        clear hown hgrow hfr o3 hb9
        refine hK.out _ _ BD3.out (fun _ => ?_)
        clear hK K
        refine wpAnyH_ready (rs := [7]) (by kernel_rfl) (by simp) ?_
        refine AllReadyH.cons rfl (fun K hK => ?_) AllReadyH.nil
        go_simp
        refine hK.out _ _ BD3.out (fun _ => ?_)
        clear hK K
        refine wpAnyH_done (by kernel_rfl) ?_ _
        go_wp2
        go_meet
        exact ⟨A2, k2, rfl, O3.out, BD3.out⟩
      · go_simp
        generalize hw9 : World.alloc u0 _ = u1
        have hb9 : Below u0.heap.size u0 u1 := by rw [← hw9]; exact (Below.refl _ _).alloc (Nat.le_refl _) _
        have NB_1 : Hid (u1.heap[u0.heap.size]? = some (.cells #[.int .i64 (-1), .int .i64 (-1), .int .i64 (-1), .int .i64 (-1), .int .i64 0, .int .i64 0, .int .i64 0, .int .i64 0] 54 (0, 0))) := Lib.hid (by rw [← hw9]; exact heap_alloc_new u0 _)
        have BD1 := Lib.hid (BD0.out.trans (hb9.mono BD0.out.size))
        clear hw9 hb9
        refine hK.out _ _ BD1.out (fun _ => ?_)
        clear hK K
        refine wpAnyH_ready (rs := [1]) (by kernel_rfl) (by simp) ?_
        refine AllReadyH.cons rfl (fun K hK => ?_) AllReadyH.nil
        go_simp
        refine (WT.out _ BD1.out).mono ?_
        rintro e u2 ⟨⟨A1, k1, rfl, h9⟩, hb9⟩
        have BD2 := Lib.hid (BD1.out.trans (hb9.mono BD1.out.size))
        have OC_2 := Lib.hid (h9.base BD1.out.size)
        have NB_2 := Lib.hid ((hb9.block _ (Array.getElem?_eq_some_iff.1 NB_1.out).1).trans NB_1.out)
        clear h9 hb9
        refine hK.out _ _ BD2.out (fun _ => ?_)
        clear hK K
        refine wpAnyH_ready (rs := [6]) (by kernel_rfl) (by simp) ?_
        refine AllReadyH.cons rfl (fun K hK => ?_) AllReadyH.nil
        refine step_append_fresh rfl (.tmp 55) (.tmp 59) 30 rfl w2.heap.size 54 i0 (.agg #[.int .i64 0, .int .i64 0, .int .i64 0, .int .i64 0, .int .i64 0, .int .i64 0, .int .i64 0, .int .i64 0]) 8 64 Tryd.underlying30 hi hz0 hz1 hz2 rfl (by decide) (.slice A1 n k1) n (L.map intV) rfl OC_2.out ⟨u0.heap.size, 0, none⟩ 1 1 (freeC.map intV) rfl rfl (free_cells NB_2.out) (allI _) (by unfold maxLen; omega) (by omega) BD2.out.size ?_
        intro v3 u3 hown hgrow hfr
        have o3 := OwnG.more hown
        obtain ⟨A2, k2, e2⟩ := o3.form
        subst e2
        have hb9 : Below w2.heap.size w2 u3 := BD2.out.grown hgrow BD2.out.size (fun q hq => (World.ownsRow.lt OC_2.out q hq).1)
        have O3 := Lib.hid o3
        have BD3 := Lib.hid hb9
        clear hown hgrow hfr o3 hb9
        refine hK.out _ _ BD3.out (fun _ => ?_)
        clear hK K
        refine wpAnyH_ready (rs := [7]) (by kernel_rfl) (by simp) ?_
        refine AllReadyH.cons rfl (fun K hK => ?_) AllReadyH.nil
        go_simp
        refine hK.out _ _ BD3.out (fun _ => ?_)
        clear hK K
        refine wpAnyH_done (by kernel_rfl) ?_ _
        go_wp2
        go_meet
        exact ⟨A2, k2, rfl, O3.out, BD3.out⟩
    case rest =>
      obtain ⟨A3, k3, rfl, ho3, hb3⟩ := hcut
      have O3 := Lib.hid (ho3.base B2.out.size)
      have B3 := Lib.hid (B2.out.trans (hb3.mono B2.out.size))
      clear ho3 hb3
      go_upto_region 13 with (go_at_call 22; refine (W1.out _ _ _ B3.out O3.out).mono ?_; rintro e w4 ⟨⟨A4, k4, rfl, h9⟩, b9⟩; have B4 := Lib.hid (B3.out.trans (b9.mono B3.out.size)); have O4 := Lib.hid (h9.base B3.out.size); clear h9 b9)
      go_wp2_with (go_at_call 22; refine (W2.out _ _ _ O4.out).mono ?_; rintro e w5 ⟨⟨A5, k5, rfl, h9⟩, b9⟩; have B5 := Lib.hid (B4.out.trans (b9.mono B4.out.size)); have O5 := Lib.hid (h9.base B4.out.size); clear h9 b9)
      go_ret3
      exact ⟨⟨_, _, rfl, O5.out⟩, B5.out⟩
  · show Calls Tryd.prog 18 #[_, .int .i64 (v : Int), .int .i64 (3 : Int)] w _
    have f1 : w.cell? ⟨b, o9 + v * 8 + 3, none⟩ = some (.int .i64 (x : Int)) := (hx v hv 3 (by decide)).trans (by rw [h1])
    have f2 : w.cell? ⟨b, o9 + v * 8 + 7, none⟩ = some (.int .i64 o) := (hy v hv 3 (by decide)).trans (by rw [h2])
    have W1 : Hid (∀ wx A c, Below w.heap.size w wx → OwnG wx w.heap.size (.slice A (n + 1) c) (L ++ freeC) (n + 1) → Calls Tryd.prog 22 #[.slice A (n + 1) c, .int .i64 (v : Int), .int .i64 (3 : Int), .int .i64 (n : Int), .int .i64 o] wx fun r w' => (∃ A c, r = .returned (.slice A (n + 1) c) ∧ OwnG w' wx.heap.size (.slice A (n + 1) c) (joinG (L ++ freeC) v 3 n o) (n + 1)) ∧ Below wx.heap.size wx w') := Lib.hid (fun wx A c hb9 ho => refWith _ (L ++ freeC) _ (n + 1) 3 v n o wx ho.cel (by omega) (by decide) (laid_join o ho.len (by omega) (by omega) (by decide)))
    have W2 : Hid (∀ wx A c, OwnG wx w.heap.size (.slice A (n + 1) c) (joinG (L ++ freeC) v 3 n o) (n + 1) → Calls Tryd.prog 22 #[.slice A (n + 1) c, .int .i64 (n : Int), .int .i64 (3 : Int), .int .i64 (x : Int), .int .i64 o] wx fun r w' => (∃ A c, r = .returned (.slice A (n + 1) c) ∧ OwnG w' wx.heap.size (.slice A (n + 1) c) (splitG L n v 3 x o) (n + 1)) ∧ Below wx.heap.size wx w') := Lib.hid (fun wx A c ho => refWith _ _ _ (n + 1) 3 n x o wx ho.cel (by omega) (by decide) (laid_join o ho.len (by omega) (by omega) (by decide)))
    clear h1 h2 hx hy
    go_enter Tryd.func18, Tryd.ntmps18
    go_upto_region 11 with (go_at_call 19; refine (NW.out _).mono ?_; rintro e w2 ⟨⟨g, rfl, h9⟩, b9⟩; have O2 := Lib.hid h9; have B2 := Lib.hid b9; clear h9 b9)
    clear f1 f2
    have XM := Lib.hid (fun wx (hb9 : Below w2.heap.size w2 wx) => eight_of (O2.out.below hb9 (Nat.le_refl _)))
    have WT : Hid (∀ wx, Below w2.heap.size w2 wx → Calls Tryd.prog 22 #[.slice (some ⟨b, o9, none⟩) n cc, .int .i64 (-1), .int .i64 0, .int .i64 (-1), .int .i64 0] wx fun r w' => (∃ A c, r = .returned (.slice A n c) ∧ OwnG w' wx.heap.size (.slice A n c) L n) ∧ Below wx.heap.size wx w') := Lib.hid (fun wx hb9 => refWith (.slice (some ⟨b, o9, none⟩) n cc) L L n 0 (-1) (-1) 0 wx (HL.out.below (B2.out.trans (hb9.mono B2.out.size)) (Nat.le_refl _)) (by omega) (by decide) (laid_copy 0 HL.out.1))
    go_cut [0, 60] from 54 to 60 (fun s0 _ wx => ∃ A k, s0 = .slice A (n + 1) k ∧ OwnG wx w2.heap.size (.slice A (n + 1) k) (L ++ freeC) (n + 1) ∧ Below w2.heap.size w2 wx)
    case first =>
      refine wp_region_held_drew (S := fun w' => Below w2.heap.size w2 w') (by kernel_rfl) (Below.refl _ _).drew (fun hHeld => ?_)
      refine wpAnyH_take (i := 0) (v := ?_) rfl (by kernel_rfl) (by kernel_rfl) (by kernel_rfl) (fun _ _ _ h => h) (Or.inl ⟨by rfl, ?_⟩) (by assumption) ?_
      rotate_left
      · (intro w' hSw; obtain ⟨s0, s1, s2, s3, s4, s5, s6, s7, sl⟩ := XM.out w' hSw; clear hSw; go_simp; try with_reducible rfl)
      refine wpAnyH_take (i := 2) (v := ?_) rfl (by kernel_rfl) (by kernel_rfl) (by kernel_rfl) (fun _ _ _ h => h) (Or.inl ⟨by rfl, ?_⟩) (by assumption) ?_
      rotate_left
      · (intro w' hSw; obtain ⟨s0, s1, s2, s3, s4, s5, s6, s7, sl⟩ := XM.out w' hSw; clear hSw; go_simp; try with_reducible rfl)
      refine wpAnyH_take (i := 3) (v := ?_) rfl (by kernel_rfl) (by kernel_rfl) (by kernel_rfl) (fun _ _ _ h => h) (Or.inl ⟨by rfl, ?_⟩) (by assumption) ?_
      rotate_left
      · (intro w' hSw; obtain ⟨s0, s1, s2, s3, s4, s5, s6, s7, sl⟩ := XM.out w' hSw; clear hSw; go_simp; try with_reducible rfl)
      refine wpAnyH_take (i := 4) (v := ?_) rfl (by kernel_rfl) (by kernel_rfl) (by kernel_rfl) (fun _ _ _ h => h) (Or.inl ⟨by rfl, ?_⟩) (by assumption) ?_
      rotate_left
      · (intro w' hSw; obtain ⟨s0, s1, s2, s3, s4, s5, s6, s7, sl⟩ := XM.out w' hSw; clear hSw; go_simp; try with_reducible rfl)
      have BD0 : Hid (Below w2.heap.size w2 (World.drew w2)) := Lib.hid hHeld
      generalize World.drew w2 = u0 at *
      clear hHeld
      refine wpAnyH_ready (rs := [1, 5]) (by kernel_rfl) (by simp) ?_
      refine AllReadyH.cons rfl (fun K hK => ?_) (AllReadyH.cons rfl (fun K hK => ?_) AllReadyH.nil)
      · go_simp
        refine (WT.out _ BD0.out).mono ?_
        rintro e u1 ⟨⟨A1, k1, rfl, h9⟩, hb9⟩
        have BD1 := Lib.hid (BD0.out.trans (hb9.mono BD0.out.size))
        have OC_1 := Lib.hid (h9.base BD0.out.size)
        clear h9 hb9
        refine hK.out _ _ BD1.out (fun _ => ?_)
        clear hK K
        refine wpAnyH_ready (rs := [5]) (by kernel_rfl) (by simp) ?_
        refine AllReadyH.cons rfl (fun K hK => ?_) AllReadyH.nil
        go_simp
        generalize hw9 : World.alloc u1 _ = u2
        have hb9 : Below u1.heap.size u1 u2 := by rw [← hw9]; exact (Below.refl _ _).alloc (Nat.le_refl _) _
        have NB_2 : Hid (u2.heap[u1.heap.size]? = some (.cells #[.int .i64 (-1), .int .i64 (-1), .int .i64 (-1), .int .i64 (-1), .int .i64 0, .int .i64 0, .int .i64 0, .int .i64 0] 54 (0, 0))) := Lib.hid (by rw [← hw9]; exact heap_alloc_new u1 _)
        have BD2 := Lib.hid (BD1.out.trans (hb9.mono BD1.out.size))
        have OC_2 := Lib.hid (OC_1.out.below hb9 (Nat.le_refl _))
        clear hw9 hb9
        refine hK.out _ _ BD2.out (fun _ => ?_)
        clear hK K
        refine wpAnyH_ready (rs := [6]) (by kernel_rfl) (by simp) ?_
        refine AllReadyH.cons rfl (fun K hK => ?_) AllReadyH.nil
        refine step_append_fresh rfl (.tmp 55) (.tmp 59) 30 rfl w2.heap.size 54 i0 (.agg #[.int .i64 0, .int .i64 0, .int .i64 0, .int .i64 0, .int .i64 0, .int .i64 0, .int .i64 0, .int .i64 0]) 8 64 Tryd.underlying30 hi hz0 hz1 hz2 rfl (by decide) (.slice A1 n k1) n (L.map intV) rfl OC_2.out ⟨u1.heap.size, 0, none⟩ 1 1 (freeC.map intV) rfl rfl (free_cells NB_2.out) (allI _) (by unfold maxLen; omega) (by omega) BD2.out.size ?_
        intro v3 u3 hown hgrow hfr
        have o3 := OwnG.more hown
        obtain ⟨A2, k2, e2⟩ := o3.form
        subst e2
        have hb9 : Below w2.heap.size w2 u3 := BD2.out.grown hgrow BD2.out.size (fun q hq => (World.ownsRow.lt OC_2.out q hq).1)
        have O3 := Lib.hid o3
        have BD3 := Lib.hid hb9
        clear hown hgrow hfr o3 hb9
        refine hK.out _ _ BD3.out (fun _ => ?_)
        clear hK K
        refine wpAnyH_ready (rs := [7]) (by kernel_rfl) (by simp) ?_
        refine AllReadyH.cons rfl (fun K hK => ?_) AllReadyH.nil
        go_simp
        refine hK.out _ _ BD3.out (fun _ => ?_)
        clear hK K
        refine wpAnyH_done (by kernel_rfl) ?_ _
        go_wp2
        go_meet
        exact ⟨A2, k2, rfl, O3.out, BD3.out⟩
      · go_simp
        generalize hw9 : World.alloc u0 _ = u1
        have hb9 : Below u0.heap.size u0 u1 := by rw [← hw9]; exact (Below.refl _ _).alloc (Nat.le_refl _) _
        have NB_1 : Hid (u1.heap[u0.heap.size]? = some (.cells #[.int .i64 (-1), .int .i64 (-1), .int .i64 (-1), .int .i64 (-1), .int .i64 0, .int .i64 0, .int .i64 0, .int .i64 0] 54 (0, 0))) := Lib.hid (by rw [← hw9]; exact heap_alloc_new u0 _)
        have BD1 := Lib.hid (BD0.out.trans (hb9.mono BD0.out.size))
        clear hw9 hb9
        refine hK.out _ _ BD1.out (fun _ => ?_)
        clear hK K
        refine wpAnyH_ready (rs := [1]) (by kernel_rfl) (by simp) ?_
        refine AllReadyH.cons rfl (fun K hK => ?_) AllReadyH.nil
        go_simp
        refine (WT.out _ BD1.out).mono ?_
        rintro e u2 ⟨⟨A1, k1, rfl, h9⟩, hb9⟩
        have BD2 := Lib.hid (BD1.out.trans (hb9.mono BD1.out.size))
        have OC_2 := Lib.hid (h9.base BD1.out.size)
        have NB_2 := Lib.hid ((hb9.block _ (Array.getElem?_eq_some_iff.1 NB_1.out).1).trans NB_1.out)
        clear h9 hb9
        refine hK.out _ _ BD2.out (fun _ => ?_)
        clear hK K
        refine wpAnyH_ready (rs := [6]) (by kernel_rfl) (by simp) ?_
        refine AllReadyH.cons rfl (fun K hK => ?_) AllReadyH.nil
        refine step_append_fresh rfl (.tmp 55) (.tmp 59) 30 rfl w2.heap.size 54 i0 (.agg #[.int .i64 0, .int .i64 0, .int .i64 0, .int .i64 0, .int .i64 0, .int .i64 0, .int .i64 0, .int .i64 0]) 8 64 Tryd.underlying30 hi hz0 hz1 hz2 rfl (by decide) (.slice A1 n k1) n (L.map intV) rfl OC_2.out ⟨u0.heap.size, 0, none⟩ 1 1 (freeC.map intV) rfl rfl (free_cells NB_2.out) (allI _) (by unfold maxLen; omega) (by omega) BD2.out.size ?_
        intro v3 u3 hown hgrow hfr
        have o3 := OwnG.more hown
        obtain ⟨A2, k2, e2⟩ := o3.form
        subst e2
        have hb9 : Below w2.heap.size w2 u3 := BD2.out.grown hgrow BD2.out.size (fun q hq => (World.ownsRow.lt OC_2.out q hq).1)
        have O3 := Lib.hid o3
        have BD3 := Lib.hid hb9
        clear hown hgrow hfr o3 hb9
        refine hK.out _ _ BD3.out (fun _ => ?_)
        clear hK K
        refine wpAnyH_ready (rs := [7]) (by kernel_rfl) (by simp) ?_
        refine AllReadyH.cons rfl (fun K hK => ?_) AllReadyH.nil
        go_simp
        refine hK.out _ _ BD3.out (fun _ => ?_)
        clear hK K
        refine wpAnyH_done (by kernel_rfl) ?_ _
        go_wp2
        go_meet
        exact ⟨A2, k2, rfl, O3.out, BD3.out⟩
    case rest =>
      obtain ⟨A3, k3, rfl, ho3, hb3⟩ := hcut
      have O3 := Lib.hid (ho3.base B2.out.size)
      have B3 := Lib.hid (B2.out.trans (hb3.mono B2.out.size))
      clear ho3 hb3
      go_upto_region 13 with (go_at_call 22; refine (W1.out _ _ _ B3.out O3.out).mono ?_; rintro e w4 ⟨⟨A4, k4, rfl, h9⟩, b9⟩; have B4 := Lib.hid (B3.out.trans (b9.mono B3.out.size)); have O4 := Lib.hid (h9.base B3.out.size); clear h9 b9)
      go_wp2_with (go_at_call 22; refine (W2.out _ _ _ O4.out).mono ?_; rintro e w5 ⟨⟨A5, k5, rfl, h9⟩, b9⟩; have B5 := Lib.hid (B4.out.trans (b9.mono B4.out.size)); have O5 := Lib.hid (h9.base B4.out.size); clear h9 b9)
      go_ret3
      exact ⟨⟨_, _, rfl, O5.out⟩, B5.out⟩
end Go.Proofs.YtbdkkkpgjcfdgaaDoor
