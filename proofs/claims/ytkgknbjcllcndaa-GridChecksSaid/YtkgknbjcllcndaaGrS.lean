/-
  What the reference's Same answers. Conditions: at most 100000 cells.
-/
import Derived.Test.YtkgknbjcllcndaaGrB
namespace Go.Proofs.Ytkgknbjcllcndaa
open Go.RowKit Go.Proofs.Ytkgknbjcllcndaa.GrM

theorem heldC : Try.prog.stoodInHeld 40 = false := by kernel_rfl
theorem eqA4 (w : World) (a0 a1 a2 a3 b0 b1 b2 b3 : Int) : (Op.equalIn 9999 38 (.agg #[.int .i64 a0, .int .i64 a1, .int .i64 a2, .int .i64 a3]) (.agg #[.int .i64 b0, .int .i64 b1, .int .i64 b2, .int .i64 b3])).run Try.prog w = .ok (a0 == b0 && (a1 == b1 && (a2 == b2 && a3 == b3))) w := by
  have ha := Try.underlying38
  have hi := Try.underlying3
  have hc : Try.prog.cellsOf 3 = 1 := by kernel_rfl
  obtain ⟨i, hinf⟩ : ∃ i, Try.prog.info? 3 = some i := by
    cases e : Try.prog.info? 3 with
    | none => exact absurd e (by decide +kernel)
    | some i => exact ⟨i, rfl⟩
  have h := run_equalIn_array (P := Try.prog) w 9998 #[.int .i64 a0, .int .i64 a1, .int .i64 a2, .int .i64 a3] #[.int .i64 b0, .int .i64 b1, .int .i64 b2, .int .i64 b3] ha hinf
  rw [h, hc]
  have e4 : List.range 4 = [0, 1, 2, 3] := rfl
  rw [e4]
  simp [Op.eqItems, go_sem]
  by_cases h0 : a0 = b0
  · by_cases h1 : a1 = b1
    · by_cases h2 : a2 = b2
      · by_cases h3 : a3 = b3
        · simp [h0, h1, h2, h3]
        · simp [h0, h1, h2, h3]
      · simp [h0, h1, h2]
    · simp [h0, h1]
  · simp [h0]
theorem neqC (w : World) (a0 a1 a2 a3 a4 a5 a6 a7 b0 b1 b2 b3 b4 b5 b6 b7 : Int) (r : Bool) (hr : decide ([a0, a1, a2, a3, a4, a5, a6, a7] = [b0, b1, b2, b3, b4, b5, b6, b7]) = !r) :
    (binOp .neq 40 (.agg #[.int .i64 a0, .int .i64 a1, .int .i64 a2, .int .i64 a3, .int .i64 a4, .int .i64 a5, .int .i64 a6, .int .i64 a7]) (.agg #[.int .i64 b0, .int .i64 b1, .int .i64 b2, .int .i64 b3, .int .i64 b4, .int .i64 b5, .int .i64 b6, .int .i64 b7])).run Try.prog w = .ok (.bool r) w := by
  have hu := Try.underlying40
  have ha := Try.underlying38
  have hi := Try.underlying3
  rw [run_neq_struct]
  have h := run_equalIn_agg (P := Try.prog) w 9999 40 #[.int .i64 a0, .int .i64 a1, .int .i64 a2, .int .i64 a3, .int .i64 a4, .int .i64 a5, .int .i64 a6, .int .i64 a7] #[.int .i64 b0, .int .i64 b1, .int .i64 b2, .int .i64 b3, .int .i64 b4, .int .i64 b5, .int .i64 b6, .int .i64 b7] (by kernel_rfl) heldC
  rw [h]
  unfold Program.fieldsOf
  rw [hu]
  have e1 : ((a0 == b0 && (a1 == b1 && (a2 == b2 && a3 == b3))) && (a4 == b4 && (a5 == b5 && (a6 == b6 && a7 == b7)))) = !r := by
    rw [← hr, Bool.eq_iff_iff]
    simp [and_assoc]
  simp [Op.eqFields, go_sem, eqA4]
  have hr2 : r = !((a0 == b0 && (a1 == b1 && (a2 == b2 && a3 == b3))) && (a4 == b4 && (a5 == b5 && (a6 == b6 && a7 == b7)))) := by rw [e1]; simp
  subst hr2
  clear hr e1 h
  by_cases h0 : a0 = b0
  · by_cases h1 : a1 = b1
    · by_cases h2 : a2 = b2
      · by_cases h3 : a3 = b3
        · by_cases h4 : a4 = b4
          · by_cases h5 : a5 = b5
            · by_cases h6 : a6 = b6
              · by_cases h7 : a7 = b7
                · simp [h0, h1, h2, h3, h4, h5, h6, h7]
                · simp [h0, h1, h2, h3, h4, h5, h6, h7]
              · simp [h0, h1, h2, h3, h4, h5, h6]
            · simp [h0, h1, h2, h3, h4, h5]
          · simp [h0, h1, h2, h3, h4]
        · simp [h0, h1, h2, h3]
      · simp [h0, h1, h2]
    · simp [h0, h1]
  · simp [h0]
def RsRel (L M : List Int) (n : Nat) (w wr : World) (iv : Value) : Prop := ∃ k : Nat, iv = .int .i64 k ∧ k ≤ n ∧ (∀ i, i < k → celL L i = celL M i) ∧ Below w.heap.size w wr
set_option maxHeartbeats 8000000 in
set_option maxRecDepth 100000 in
theorem refSameC (lv mv : Value) (L M : List Int) (n m : Nat) (w : World) (hL : CelAt w lv L n) (hM : CelAt w mv M m) (hn : n ≤ 100000) (hm : m ≤ 100000) :
    Calls Try.prog 19 #[lv, mv] w fun r w' => r = .returned (.bool (decide (L = M))) ∧ Below w.heap.size w w' := by
  have HL := Lib.hid hL
  have HM := Lib.hid hM
  obtain ⟨A1, c1, e⟩ := hL.form
  subst e
  obtain ⟨A2, c2, e⟩ := hM.form
  subst e
  by_cases hnm : n = m
  · subst hnm
    have SM := Lib.hid (cells_same hL.1 hM.1)
    clear hL hM
    go_enter Try.func19, Try.ntmps19
    go_wp2
    go_loopw [5] (fun iv wr => RsRel L M n w wr iv) (fun iv _ => n - (intOf iv).toNat)
    case atStart => exact ⟨0, rfl, Nat.zero_le _, fun i hi => absurd hi (by omega), Below.refl _ _⟩
    case round =>
      obtain ⟨k, rfl, hk, hs, hB⟩ := hrel
      have SK := Lib.hid hs
      have B := Lib.hid hB
      clear hs hB
      by_cases hlt : k < n
      · obtain ⟨b, o, c', e, hb, hx, hy⟩ := HL.out.nth hlt
        simp only [Value.slice.injEq, true_and] at e
        obtain ⟨rfl, rfl⟩ := e
        obtain ⟨b2, o2, c2', e, hb2, hx2, hy2⟩ := HM.out.nth hlt
        simp only [Value.slice.injEq, true_and] at e
        obtain ⟨rfl, rfl⟩ := e
        have f0 : wr.cell? ⟨b, o + k * 8, none⟩ = some (.int .i64 (nxG L k 0)) := (B.out.cell (p := ⟨b, o + k * 8 + 0, none⟩) hb).trans (hx 0 (by decide))
        have f1 : wr.cell? ⟨b, o + k * 8 + 1, none⟩ = some (.int .i64 (nxG L k 1)) := (B.out.cell (p := ⟨b, o + k * 8 + 1, none⟩) hb).trans (hx 1 (by decide))
        have f2 : wr.cell? ⟨b, o + k * 8 + 2, none⟩ = some (.int .i64 (nxG L k 2)) := (B.out.cell (p := ⟨b, o + k * 8 + 2, none⟩) hb).trans (hx 2 (by decide))
        have f3 : wr.cell? ⟨b, o + k * 8 + 3, none⟩ = some (.int .i64 (nxG L k 3)) := (B.out.cell (p := ⟨b, o + k * 8 + 3, none⟩) hb).trans (hx 3 (by decide))
        have f4 : wr.cell? ⟨b, o + k * 8 + 4, none⟩ = some (.int .i64 (owG L k 0)) := (B.out.cell (p := ⟨b, o + k * 8 + 4 + 0, none⟩) hb).trans (hy 0 (by decide))
        have f5 : wr.cell? ⟨b, o + k * 8 + 5, none⟩ = some (.int .i64 (owG L k 1)) := (B.out.cell (p := ⟨b, o + k * 8 + 4 + 1, none⟩) hb).trans (hy 1 (by decide))
        have f6 : wr.cell? ⟨b, o + k * 8 + 6, none⟩ = some (.int .i64 (owG L k 2)) := (B.out.cell (p := ⟨b, o + k * 8 + 4 + 2, none⟩) hb).trans (hy 2 (by decide))
        have f7 : wr.cell? ⟨b, o + k * 8 + 7, none⟩ = some (.int .i64 (owG L k 3)) := (B.out.cell (p := ⟨b, o + k * 8 + 4 + 3, none⟩) hb).trans (hy 3 (by decide))
        have g0 : wr.cell? ⟨b2, o2 + k * 8, none⟩ = some (.int .i64 (nxG M k 0)) := (B.out.cell (p := ⟨b2, o2 + k * 8 + 0, none⟩) hb2).trans (hx2 0 (by decide))
        have g1 : wr.cell? ⟨b2, o2 + k * 8 + 1, none⟩ = some (.int .i64 (nxG M k 1)) := (B.out.cell (p := ⟨b2, o2 + k * 8 + 1, none⟩) hb2).trans (hx2 1 (by decide))
        have g2 : wr.cell? ⟨b2, o2 + k * 8 + 2, none⟩ = some (.int .i64 (nxG M k 2)) := (B.out.cell (p := ⟨b2, o2 + k * 8 + 2, none⟩) hb2).trans (hx2 2 (by decide))
        have g3 : wr.cell? ⟨b2, o2 + k * 8 + 3, none⟩ = some (.int .i64 (nxG M k 3)) := (B.out.cell (p := ⟨b2, o2 + k * 8 + 3, none⟩) hb2).trans (hx2 3 (by decide))
        have g4 : wr.cell? ⟨b2, o2 + k * 8 + 4, none⟩ = some (.int .i64 (owG M k 0)) := (B.out.cell (p := ⟨b2, o2 + k * 8 + 4 + 0, none⟩) hb2).trans (hy2 0 (by decide))
        have g5 : wr.cell? ⟨b2, o2 + k * 8 + 5, none⟩ = some (.int .i64 (owG M k 1)) := (B.out.cell (p := ⟨b2, o2 + k * 8 + 4 + 1, none⟩) hb2).trans (hy2 1 (by decide))
        have g6 : wr.cell? ⟨b2, o2 + k * 8 + 6, none⟩ = some (.int .i64 (owG M k 2)) := (B.out.cell (p := ⟨b2, o2 + k * 8 + 4 + 2, none⟩) hb2).trans (hy2 2 (by decide))
        have g7 : wr.cell? ⟨b2, o2 + k * 8 + 7, none⟩ = some (.int .i64 (owG M k 3)) := (B.out.cell (p := ⟨b2, o2 + k * 8 + 4 + 3, none⟩) hb2).trans (hy2 3 (by decide))
        have z1 := Nat.lt_of_lt_of_le hb B.out.size
        have z2 := Nat.lt_of_lt_of_le hb2 B.out.size
        clear hx hy hx2 hy2
        by_cases hc : celL L k = celL M k
        · have SN : Hid (∀ i, i < k + 1 → celL L i = celL M i) := Lib.hid (fun i hi => by
            by_cases e : i = k
            · subst e; exact hc
            · exact SK.out i (by omega))
          have hq := fun W => neqC W _ _ _ _ _ _ _ _ _ _ _ _ _ _ _ _ false (show decide (celL L k = celL M k) = !false by rw [decide_eq_true hc]; rfl)
          clear hc
          generalize nxG L k 0 = y0 at *
          generalize nxG L k 1 = y1 at *
          generalize nxG L k 2 = y2 at *
          generalize nxG L k 3 = y3 at *
          generalize owG L k 0 = y4 at *
          generalize owG L k 1 = y5 at *
          generalize owG L k 2 = y6 at *
          generalize owG L k 3 = y7 at *
          generalize nxG M k 0 = x0 at *
          generalize nxG M k 1 = x1 at *
          generalize nxG M k 2 = x2 at *
          generalize nxG M k 3 = x3 at *
          generalize owG M k 0 = x4 at *
          generalize owG M k 1 = x5 at *
          generalize owG M k 2 = x6 at *
          generalize owG M k 3 = x7 at *
          go_wp2
          go_region
          all_goals
            go_wp2
            go_roundw
            case rel => exact ⟨k + 1, by go_num, by omega, SN.out, B.out.trans ((Below.refl _ _).drew.mono B.out.size)⟩
            case measure => (simp [intOf] <;> omega)
        · have NE : Hid (decide (L = M) = false) := Lib.hid (by
            rw [decide_eq_false_iff_not]
            intro e
            exact hc (SM.out.1 e k hlt))
          have hq := fun W => neqC W _ _ _ _ _ _ _ _ _ _ _ _ _ _ _ _ true (show decide (celL L k = celL M k) = !true by rw [decide_eq_false hc]; rfl)
          clear hc
          generalize nxG L k 0 = y0 at *
          generalize nxG L k 1 = y1 at *
          generalize nxG L k 2 = y2 at *
          generalize nxG L k 3 = y3 at *
          generalize owG L k 0 = y4 at *
          generalize owG L k 1 = y5 at *
          generalize owG L k 2 = y6 at *
          generalize owG L k 3 = y7 at *
          generalize nxG M k 0 = x0 at *
          generalize nxG M k 1 = x1 at *
          generalize nxG M k 2 = x2 at *
          generalize nxG M k 3 = x3 at *
          generalize owG M k 0 = x4 at *
          generalize owG M k 1 = x5 at *
          generalize owG M k 2 = x6 at *
          generalize owG M k 3 = x7 at *
          go_wp2
          go_region
          all_goals
            go_wp2
            go_ret
            exact ⟨ret_bool NE.out.symm, B.out.trans ((Below.refl _ _).drew.mono B.out.size)⟩
      · have hkn : k = n := by omega
        have EQ : Hid (decide (L = M) = true) := Lib.hid (by
          rw [decide_eq_true_eq]
          exact SM.out.2 (fun i hi => SK.out i (by omega)))
        go_wp2
        go_ret
        exact ⟨ret_bool EQ.out.symm, B.out⟩
  · have hne : decide (L = M) = false := by
      rw [decide_eq_false_iff_not]
      intro e
      have h1 := hL.1
      have h2 := hM.1
      rw [e] at h1
      omega
    have NE := Lib.hid hne
    have q1 : ((n : Int) == (m : Int)) = false := by rw [beq_eq_false_iff_ne]; omega
    have q2 : ((n : Int) != (m : Int)) = true := by rw [bne, q1]; rfl
    clear hL hM hne hnm
    go_enter Try.func19, Try.ntmps19
    go_wp2
    go_ret
    exact ⟨ret_bool NE.out.symm, Below.refl _ _⟩
end Go.Proofs.Ytkgknbjcllcndaa
