/-
  What the document's Is and Behind answer. Conditions: cells that may be.
-/
import Derived.Test.YtkgabklponjagaaDoorFcC
import Derived.BigQuiet
namespace Go.Proofs.YtkgabklponjagaaDoor
open Go.RowKit Go.Proofs.YtkgabklponjagaaDoor.GrM Go.Proofs.YtkgabklponjagaaDoor.FcM

theorem nx_ge {L : List Int} {n a d : Nat} (hg : GoodG L n) (ha : a < n) (hd : d < 4) : (0 ≤ nxG L a d ↔ nxG L a d ≠ -1) ∧ -1 ≤ nxG L a d ∧ nxG L a d < 4611686018427387904 + n := by
  rcases hg.side ha hd with h | h
  · omega
  · omega
set_option maxHeartbeats 8000000 in
set_option maxRecDepth 100000 in
theorem refIs (lv : Value) (L : List Int) (n : Nat) (x d : Int) (w : World) (hL : CelAt w lv L n) (hn : n ≤ 100000) (hg : GoodG L n) :
    Calls Tryd.prog 19 #[lv, .agg #[.int .i64 x, .int .i64 d]] w (BhP (.bool (stepB L n x d)) w) := by
  have HL := Lib.hid hL
  obtain ⟨A, c, e⟩ := hL.form
  subst e
  clear hL
  by_cases h0 : 0 ≤ x
  · have q0 : decide (0 ≤ x) = true := decide_eq_true h0
    by_cases h1 : x < n
    · have q1 : decide (x < (n : Int)) = true := decide_eq_true h1
      by_cases h2 : 0 ≤ d
      · have q2 : decide (0 ≤ d) = true := decide_eq_true h2
        by_cases h3 : d ≤ 3
        · have q3 : decide (d ≤ 3) = true := decide_eq_true h3
          obtain ⟨a, rfl⟩ : ∃ a : Nat, x = a := ⟨x.toNat, by omega⟩
          obtain ⟨e, rfl⟩ : ∃ e : Nat, d = e := ⟨d.toNat, by omega⟩
          have ha : a < n := by omega
          have he : e < 4 := by omega
          obtain ⟨b, o, cap, ev, hb, hx, -⟩ := HL.out.nth ha
          simp only [Value.slice.injEq, true_and] at ev
          obtain ⟨rfl, rfl⟩ := ev
          have f0 := hx e he
          have SB : stepB L n (a : Int) (e : Int) = decide (0 ≤ nxG L a e) := by
            unfold stepB
            rw [hasB_t (by omega), goodB_t (by omega) (by omega), Int.toNat_natCast, Int.toNat_natCast, Bool.true_and, Bool.true_and]
            exact decide_eq_decide.2 (nx_ge hg ha he).1.symm
          rw [SB]
          generalize nxG L a e = y at *
          have m1 : (if (n : Int) - 1 < (a : Int) then (n : Int) - 1 else (a : Int)) = (a : Int) := by split <;> omega
          have m2 : (if 0 < a then (a : Int) else 0) = (a : Int) := by split <;> omega
          have m3 : (if 0 < e then (e : Int) else 0) = (e : Int) := by split <;> omega
          have m4 : (e : Int) % 4 = (e : Int) := by omega
          have cx1 : IntKind.i64.wrap ((n : Int) - 1) = (n : Int) - 1 := IntWalk.i64_in _ (by omega)
          have cx2 : IntKind.i64.wrap (e : Int) = (e : Int) := IntWalk.i64_in _ (by omega)
          clear hx SB h0 h1 h2 h3 HL hg
          go_enter Tryd.func19, Tryd.ntmps19
          go_wp2_with fail
          obtain ⟨wb, hwb⟩ : ∃ X, X = (w.alloc (.cells #[.int .i64 (a : Int), .int .i64 (e : Int)] 47)) := ⟨_, rfl⟩
          have bb : Below w.heap.size w wb := by rw [hwb]; exact (Below.refl _ _).alloc (Nat.le_refl _) _
          have x0 : wb.cell? ⟨w.heap.size, 0, none⟩ = some (.int .i64 (a : Int)) := by rw [hwb]; go_simp
          have x1 : wb.cell? ⟨w.heap.size, 1, none⟩ = some (.int .i64 (e : Int)) := by rw [hwb]; go_simp
          have hgb : w.heap.size < wb.heap.size := by rw [hwb]; simp
          have BB := Lib.hid bb
          rw [← hwb]
          have g0 := (bb.cell (p := ⟨b, o + a * 8 + e, none⟩) hb).trans f0
          have hbz := Nat.lt_of_lt_of_le hb bb.size
          clear hwb bb
          go_quiet (fail)
          go_wp2_with fail
          go_ret
          exact ⟨rfl, drewN_below BB.out _⟩
        · have q9 : decide (d ≤ 3) = false := decide_eq_false h3
          have SB : stepB L n x d = false := by unfold stepB; rw [goodB_f (fun e => h3 (by omega))]; simp
          rw [SB]
          clear SB HL
          go_enter Tryd.func19, Tryd.ntmps19
          go_wp2_with fail
          obtain ⟨wb, hwb⟩ : ∃ X, X = (w.alloc (.cells #[.int .i64 x, .int .i64 d] 47)) := ⟨_, rfl⟩
          have bb : Below w.heap.size w wb := by rw [hwb]; exact (Below.refl _ _).alloc (Nat.le_refl _) _
          have x0 : wb.cell? ⟨w.heap.size, 0, none⟩ = some (.int .i64 x) := by rw [hwb]; go_simp
          have x1 : wb.cell? ⟨w.heap.size, 1, none⟩ = some (.int .i64 d) := by rw [hwb]; go_simp
          have hgb : w.heap.size < wb.heap.size := by rw [hwb]; simp
          have BB := Lib.hid bb
          rw [← hwb]
          skip
          clear hwb bb
          go_quiet (fail)
          go_wp2_with fail
          go_ret
          exact ⟨rfl, drewN_below BB.out _⟩
      · have q9 : decide (0 ≤ d) = false := decide_eq_false h2
        have SB : stepB L n x d = false := by unfold stepB; rw [goodB_f (fun e => h2 e.1)]; simp
        rw [SB]
        clear SB HL
        go_enter Tryd.func19, Tryd.ntmps19
        go_wp2_with fail
        obtain ⟨wb, hwb⟩ : ∃ X, X = (w.alloc (.cells #[.int .i64 x, .int .i64 d] 47)) := ⟨_, rfl⟩
        have bb : Below w.heap.size w wb := by rw [hwb]; exact (Below.refl _ _).alloc (Nat.le_refl _) _
        have x0 : wb.cell? ⟨w.heap.size, 0, none⟩ = some (.int .i64 x) := by rw [hwb]; go_simp
        have x1 : wb.cell? ⟨w.heap.size, 1, none⟩ = some (.int .i64 d) := by rw [hwb]; go_simp
        have hgb : w.heap.size < wb.heap.size := by rw [hwb]; simp
        have BB := Lib.hid bb
        rw [← hwb]
        skip
        clear hwb bb
        go_quiet (fail)
        go_wp2_with fail
        go_ret
        exact ⟨rfl, drewN_below BB.out _⟩
    · have q9 : decide (x < (n : Int)) = false := decide_eq_false h1
      have SB : stepB L n x d = false := by unfold stepB; rw [hasB_f (fun e => h1 e.2)]; simp
      rw [SB]
      clear SB HL
      go_enter Tryd.func19, Tryd.ntmps19
      go_wp2_with fail
      obtain ⟨wb, hwb⟩ : ∃ X, X = (w.alloc (.cells #[.int .i64 x, .int .i64 d] 47)) := ⟨_, rfl⟩
      have bb : Below w.heap.size w wb := by rw [hwb]; exact (Below.refl _ _).alloc (Nat.le_refl _) _
      have x0 : wb.cell? ⟨w.heap.size, 0, none⟩ = some (.int .i64 x) := by rw [hwb]; go_simp
      have x1 : wb.cell? ⟨w.heap.size, 1, none⟩ = some (.int .i64 d) := by rw [hwb]; go_simp
      have hgb : w.heap.size < wb.heap.size := by rw [hwb]; simp
      have BB := Lib.hid bb
      rw [← hwb]
      skip
      clear hwb bb
      go_quiet (fail)
      go_wp2_with fail
      go_ret
      exact ⟨rfl, drewN_below BB.out _⟩
  · have q9 : decide (0 ≤ x) = false := decide_eq_false h0
    have SB : stepB L n x d = false := by unfold stepB; rw [hasB_f (fun e => h0 e.1)]; simp
    rw [SB]
    clear SB HL
    go_enter Tryd.func19, Tryd.ntmps19
    go_wp2_with fail
    obtain ⟨wb, hwb⟩ : ∃ X, X = (w.alloc (.cells #[.int .i64 x, .int .i64 d] 47)) := ⟨_, rfl⟩
    have bb : Below w.heap.size w wb := by rw [hwb]; exact (Below.refl _ _).alloc (Nat.le_refl _) _
    have x0 : wb.cell? ⟨w.heap.size, 0, none⟩ = some (.int .i64 x) := by rw [hwb]; go_simp
    have x1 : wb.cell? ⟨w.heap.size, 1, none⟩ = some (.int .i64 d) := by rw [hwb]; go_simp
    have hgb : w.heap.size < wb.heap.size := by rw [hwb]; simp
    have BB := Lib.hid bb
    rw [← hwb]
    skip
    clear hwb bb
    go_quiet (fail)
    go_wp2_with fail
    go_ret
    exact ⟨rfl, drewN_below BB.out _⟩
end Go.Proofs.YtkgabklponjagaaDoor
