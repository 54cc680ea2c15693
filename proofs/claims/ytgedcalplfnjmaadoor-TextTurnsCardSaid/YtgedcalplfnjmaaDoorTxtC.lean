/-
  What the reference's Check answers, at any shape. Conditions: at most 1000000 vertices, edges, letters of an edge.
-/
import Derived.Test.YtgedcalplfnjmaaDoorParX
import Derived.Test.YtgedcalplfnjmaaDoorParR
import Derived.Deep.CutRange
namespace Go.Proofs.YtgedcalplfnjmaaDoor
open Go.RowKit Go.Proofs.YtgedcalplfnjmaaDoor.LexM Go.Proofs.YtgedcalplfnjmaaDoor.ParM

theorem manyS_many {B : List Bool} {E : List Edg} : manyS B E = (decide (4096 < B.length) || decide (4096 < E.length) || decide (4096 < bendsOf E)) := rfl
theorem bends_bound {E : List Edg} (hz : ∀ e ∈ E, e.2.2.2.length ≤ 1000000) : ∀ k, bendsOf (E.take k) ≤ 1000000 * E.length := by
  intro k
  refine Nat.le_trans (bends_le E k) ?_
  induction E with
  | nil => simp [bendsOf]
  | cons e E ih =>
    have h1 := ih (fun x hx => hz x (by simp [hx]))
    have h2 := hz e (by simp)
    have hbe : bendsOf (e :: E) = e.2.2.2.length + bendsOf E := by simp [bendsOf]
    rw [hbe, List.length_cons]; omega
def RcsRel (E : List Edg) (wb wr : World) (nv iv : Value) : Prop := ∃ (k z : Nat), iv = .int .i64 k ∧ nv = .int .i64 z ∧ z = bendsOf (E.take k) ∧ k ≤ E.length ∧ Below wb.heap.size wb wr
def RceRel (n : Nat) (E : List Edg) (wb wr : World) (iv : Value) : Prop := ∃ k : Nat, iv = .int .i64 k ∧ k ≤ E.length ∧ chkL n (E.drop k) = chkL n E ∧ Below wb.heap.size wb wr
set_option maxHeartbeats 16000000 in
set_option maxRecDepth 100000 in
theorem refCheck (bv ev : Value) (B : List Bool) (E : List Edg) (w : World) (hB : BlsAt w bv B) (hE : EdsAt w ev E) (hl : E.length ≤ 1000000) (hBl : B.length ≤ 1000000) (hz : ∀ e ∈ E, e.2.2.2.length ≤ 1000000) :
    Calls Tryd.prog 6 #[.agg #[bv, ev]] w fun r w' => r = .returned (.int .i64 (chkS B E)) ∧ Below w.heap.size w w' := by
  have HE := Lib.hid hE
  have ZE := Lib.hid hz
  have BO := Lib.hid (bends_bound hz)
  obtain ⟨nB, hnB⟩ : ∃ n, B.length = n := ⟨_, rfl⟩
  obtain ⟨nE, hnE⟩ : ∃ n, E.length = n := ⟨_, rfl⟩
  obtain ⟨A, c, e⟩ := hB.form
  rw [hnB] at e hBl
  subst e
  obtain ⟨A2, c2, e⟩ := hE.form
  rw [hnE] at e hl
  subst e
  have LE := Lib.hid hnE
  have MS : Hid (manyS B E = (decide (4096 < nB) || decide (4096 < nE) || decide (4096 < bendsOf E))) := Lib.hid (by unfold manyS; rw [hnB, hnE])
  have LB := Lib.hid hnB
  clear hB hE hz hnB hnE
  go_enter Tryd.func6, Tryd.ntmps6
  go_upto_region 1 with (fail)
  generalize hwb : World.alloc w _ = wb
  have b0 : Below w.heap.size w wb := by rw [← hwb]; exact (Below.refl _ _).alloc (Nat.le_refl _) _
  have hk0 : wb.heap[w.heap.size]? = some (.cells #[.slice A nB c, .slice A2 nE c2] 31 (0, 0)) := by rw [← hwb]; exact heap_alloc_new w _
  have B0 := Lib.hid b0
  have hlt0 : w.heap.size < wb.heap.size := (Array.getElem?_eq_some_iff.1 hk0).1
  have xx : ∀ wr, Below wb.heap.size wb wr → wr.cell? ⟨w.heap.size, 0, none⟩ = some (.slice A nB c) ∧ wr.cell? ⟨w.heap.size, 1, none⟩ = some (.slice A2 nE c2) ∧ w.heap.size < wr.heap.size := by
    intro wr b
    have h1 := b.block _ hlt0
    rw [hk0] at h1
    exact ⟨by simp [World.cell?, h1], by simp [World.cell?, h1], Nat.lt_of_lt_of_le hlt0 b.size⟩
  have XX := Lib.hid xx
  have EB := Lib.hid (HE.out.below b0 (Nat.le_refl _))
  clear hwb b0 hk0 xx
  go_wp2_with (fail)
  go_loopw [3, 4] (fun nv iv wr => RcsRel E wb wr nv iv) (fun _ iv _ => nE - (intOf iv).toNat)
  case atStart => exact ⟨0, 0, rfl, rfl, by simp [bendsOf], Nat.zero_le _, Below.refl _ _⟩
  case round =>
    obtain ⟨k, z, rfl, rfl, hz, hk, hBW⟩ := hrel
    rw [LE.out] at hk
    have BW := Lib.hid hBW
    have Z := Lib.hid hz
    have hzl : z ≤ 1000000000000 := by rw [hz]; have := BO.out k; rw [LE.out] at this; omega
    obtain ⟨x0, x1, xl⟩ := XX.out wr hBW
    clear hBW hz
    by_cases hlt : k < nE
    · have hkE : k < E.length := by rw [LE.out]; exact hlt
      obtain ⟨b, o, c', e, hb, d0, d1, d2, d3⟩ := EB.out.nth hkE
      rw [LE.out] at e
      simp only [Value.slice.injEq, true_and] at e
      obtain ⟨rfl, rfl⟩ := e
      have f3 := (BW.out.cell (p := ⟨b, o + k * 4 + 3, none⟩) hb).trans d3
      have z1 := Nat.lt_of_lt_of_le hb BW.out.size
      have TK := bends_take E k hkE
      have hze := ZE.out E[k] (List.getElem_mem hkE)
      obtain ⟨x, hx⟩ : ∃ x, E[k] = x := ⟨_, rfl⟩
      rw [hx] at f3 TK hze
      clear d0 d1 d2 d3 hx
      obtain ⟨y1, y2, y3, y4⟩ := x
      simp only at f3 TK hze
      have hs := bs_size y4
      rw [← hs] at TK hze
      have N : Hid (z + (bs y4).size = bendsOf (E.take (k + 1))) := Lib.hid (by rw [TK, Z.out])
      clear TK hs
      generalize bs y4 = sb at *
      go_wp2
      go_roundw
      case rel => exact ⟨k + 1, z + sb.size, by go_num, by go_num, N.out, by rw [LE.out]; omega, by first | exact BW.out | exact BW.out.trans ((Below.refl _ _).drew.mono BW.out.size)⟩
      case measure => (simp [intOf] <;> omega)
    · obtain rfl : k = nE := by omega
      have ZF : Hid (z = bendsOf E) := Lib.hid (by rw [Z.out, List.take_of_length_le (by rw [LE.out]; exact Nat.le_refl _)])
      obtain ⟨wo, hwo⟩ : ∃ W, W = wr := ⟨_, rfl⟩
      subst hwo
      clear Z
      by_cases h1 : 4096 < nB
      · have M : Hid (chkS B E = 6) := Lib.hid (by unfold chkS; rw [MS.out, decide_eq_true h1]; rfl)
        have q1 : decide ((4096 : Int) < nB) = true := by rw [decide_eq_true_eq]; omega
        have q2 : decide (4096 < nB) = true := by rw [decide_eq_true_eq]; omega
        go_wp2
        go_ret
        exact ⟨ret_int M.out.symm, B0.out.trans (BW.out.mono B0.out.size)⟩
      · have q1 : decide ((4096 : Int) < nB) = false := by rw [decide_eq_false_iff_not]; omega
        have q1' : decide (4096 < nB) = false := by rw [decide_eq_false_iff_not]; omega
        by_cases h2 : 4096 < k
        · have M : Hid (chkS B E = 6) := Lib.hid (by unfold chkS; rw [MS.out, decide_eq_true h2, Bool.or_true]; rfl)
          have q2 : decide ((4096 : Int) < k) = true := by rw [decide_eq_true_eq]; omega
          have q2' : decide (4096 < k) = true := by rw [decide_eq_true_eq]; omega
          go_wp2
          go_ret
          exact ⟨ret_int M.out.symm, B0.out.trans (BW.out.mono B0.out.size)⟩
        · have q2 : decide ((4096 : Int) < k) = false := by rw [decide_eq_false_iff_not]; omega
          have q2' : decide (4096 < k) = false := by rw [decide_eq_false_iff_not]; omega
          by_cases h3 : 4096 < z
          · have M : Hid (chkS B E = 6) := Lib.hid (by unfold chkS; rw [MS.out, ← ZF.out, decide_eq_true h3, Bool.or_true]; rfl)
            have q3 : decide ((4096 : Int) < z) = true := by rw [decide_eq_true_eq]; omega
            have q3' : decide (4096 < z) = true := by rw [decide_eq_true_eq]; omega
            go_wp2
            go_ret
            exact ⟨ret_int M.out.symm, B0.out.trans (BW.out.mono B0.out.size)⟩
          · have q3 : decide ((4096 : Int) < z) = false := by rw [decide_eq_false_iff_not]; omega
            have q3' : decide (4096 < z) = false := by rw [decide_eq_false_iff_not]; omega
            have C : Hid (chkS B E = chkL nB E) := Lib.hid (by unfold chkS; rw [MS.out, ← ZF.out, decide_eq_false h1, decide_eq_false h2, decide_eq_false h3, LB.out]; rfl)
            clear h1 h2 h3 ZF MS BO
            go_wp2
            go_loopw [5] (fun iv wr => RceRel nB E wb wr iv) (fun iv _ => k - (intOf iv).toNat)
            case atStart => exact ⟨0, rfl, Nat.zero_le _, rfl, BW.out⟩
            case round =>
              clear x0 x1 xl
              obtain ⟨j, rfl, hj, hcj, hBW⟩ := hrel
              rw [LE.out] at hj
              have BV := Lib.hid hBW
              have CJ := Lib.hid hcj
              obtain ⟨x0, x1, xl⟩ := XX.out wr hBW
              have hwz := hBW.size
              clear hBW hcj
              by_cases hlt2 : j < k
              · have hjE : j < E.length := by rw [LE.out]; exact hlt2
                obtain ⟨b, o, c', e, hb, d0, d1, d2, d3⟩ := EB.out.nth hjE
                rw [LE.out] at e
                simp only [Value.slice.injEq, true_and] at e
                obtain ⟨rfl, rfl⟩ := e
                have f0 := (BV.out.cell (p := ⟨b, o + j * 4, none⟩) hb).trans d0
                have f1 := (BV.out.cell (p := ⟨b, o + j * 4 + 1, none⟩) hb).trans d1
                have f2 := (BV.out.cell (p := ⟨b, o + j * 4 + 2, none⟩) hb).trans d2
                have f3 := (BV.out.cell (p := ⟨b, o + j * 4 + 3, none⟩) hb).trans d3
                have z1 := Nat.lt_of_lt_of_le hb BV.out.size
                have hcj := CJ.out
                rw [List.drop_eq_getElem_cons hjE, chkL] at hcj
                have hze := ZE.out E[j] (List.getElem_mem hjE)
                obtain ⟨x, hx⟩ : ∃ x, E[j] = x := ⟨_, rfl⟩
                rw [hx] at f0 f1 f2 f3 hcj hze
                clear d0 d1 d2 d3 hx
                obtain ⟨y1, y2, y3, y4⟩ := x
                simp only at f0 f1 f2 f3 hze
                have T0 := fun w => refTurns (bs y4) w (by rw [bs_size]; omega)
                rw [bs_data] at T0
                generalize bs y4 = sb at *
                have CV : Hid (chkE nB (y1, y2, y3, y4) = (if (decide (0 ≤ y1) && decide (y1 < nB)) = false then 3 else if (decide (0 ≤ y2) && decide (y2 < nB)) = false then 3 else if goodB y3 = false then 2 else if isTurns y4 = false then 2 else 0)) := Lib.hid rfl
                obtain ⟨q, hq⟩ : ∃ q, chkE nB (y1, y2, y3, y4) = q := ⟨_, rfl⟩
                rw [hq] at hcj CV
                have HC := Lib.hid hcj
                have T := Lib.hid T0
                clear hq hcj T0 hze
                go_upto_region 12 with (fail)
                generalize hwa : World.alloc wr _ = wa
                have ba : Below wr.heap.size wr wa := by rw [← hwa]; exact (Below.refl _ _).alloc (Nat.le_refl _) _
                have hka : wa.heap[wr.heap.size]? = some (.cells #[.int .i64 y1, .int .i64 y2, .int .i64 y3, .string sb] 23 (0, 0)) := by rw [← hwa]; exact heap_alloc_new wr _
                have BA : Hid (Below wb.heap.size wb wa) := Lib.hid (BV.out.trans (ba.mono BV.out.size))
                have a0 : wa.cell? ⟨wr.heap.size, 0, none⟩ = some (.int .i64 y1) := by simp [World.cell?, hka]
                have a1 : wa.cell? ⟨wr.heap.size, 1, none⟩ = some (.int .i64 y2) := by simp [World.cell?, hka]
                have a2 : wa.cell? ⟨wr.heap.size, 2, none⟩ = some (.int .i64 y3) := by simp [World.cell?, hka]
                have a3 : wa.cell? ⟨wr.heap.size, 3, none⟩ = some (.string sb) := by simp [World.cell?, hka]
                have al : wr.heap.size < wa.heap.size := (Array.getElem?_eq_some_iff.1 hka).1
                clear x0 x1 xl f0 f1 f2 f3 z1
                obtain ⟨x0, x1, xl⟩ := XX.out wa BA.out
                have R3 : Hid (q = 3 → chkS B E = 3) := Lib.hid (fun h => by rw [C.out, ← HC.out, h]; rfl)
                have R2 : Hid (q = 2 → chkS B E = 2) := Lib.hid (fun h => by rw [C.out, ← HC.out, h]; rfl)
                have R0 : Hid (q = 0 → chkL nB (E.drop (j + 1)) = chkL nB E) := Lib.hid (fun h => by rw [← HC.out, h]; rfl)
                clear hwa ba hka
                by_cases g1 : 0 ≤ y1
                · have t1 : decide (y1 < 0) = false := by rw [decide_eq_false_iff_not]; omega
                  by_cases g2 : y1 < nB
                  · have t2 : decide ((nB : Int) ≤ y1) = false := by rw [decide_eq_false_iff_not]; omega
                    by_cases g3 : 0 ≤ y2
                    · have t3 : decide (y2 < 0) = false := by rw [decide_eq_false_iff_not]; omega
                      by_cases g4 : y2 < nB
                      · have t4 : decide ((nB : Int) ≤ y2) = false := by rw [decide_eq_false_iff_not]; omega
                        by_cases g5 : 0 ≤ y3
                        · have t5 : decide (y3 < 0) = false := by rw [decide_eq_false_iff_not]; omega
                          by_cases g6 : y3 ≤ 3
                          · have t6 : decide (3 < y3) = false := by rw [decide_eq_false_iff_not]; omega
                            cases hT : isTurns y4
                            · have Q : Hid (q = 2) := Lib.hid (by rw [CV.out, decide_eq_true g1, decide_eq_true g2, decide_eq_true g3, decide_eq_true g4, goodB_t g5 (by omega), hT]; rfl)
                              have T2 := T.out
                              rw [hT] at T2
                              clear hT T CV g1 g2 g3 g4 g5 g6
                              go_wp2_with (go_at_call 17; refine (T2 _).mono ?_; rintro e w1 ⟨rfl, rfl⟩)
                              go_ret
                              exact ⟨ret_int (R2.out Q.out).symm, B0.out.trans (BA.out.mono B0.out.size)⟩
                            · have Q : Hid (q = 0) := Lib.hid (by rw [CV.out, decide_eq_true g1, decide_eq_true g2, decide_eq_true g3, decide_eq_true g4, goodB_t g5 (by omega), hT]; rfl)
                              have T2 := T.out
                              rw [hT] at T2
                              clear hT T CV g1 g2 g3 g4 g5 g6
                              go_wp2_with (go_at_call 17; refine (T2 _).mono ?_; rintro e w1 ⟨rfl, rfl⟩)
                              go_roundw
                              case rel => exact ⟨j + 1, by go_num, by rw [LE.out]; omega, R0.out Q.out, BA.out⟩
                              case measure => (simp [intOf] <;> omega)
                          · have t6 : decide (3 < y3) = true := by rw [decide_eq_true_eq]; omega
                            have Q : Hid (q = 2) := Lib.hid (by rw [CV.out, decide_eq_true g1, decide_eq_true g2, decide_eq_true g3, decide_eq_true g4, goodB_f (by omega)]; rfl)
                            have T2 := T.out
                            obtain ⟨tt, htt⟩ : ∃ tt, isTurns y4 = tt := ⟨_, rfl⟩
                            rw [htt] at T2
                            clear htt T CV g1 g2 g3 g4 g5 g6
                            go_wp2_with (go_at_call 17; refine (T2 _).mono ?_; rintro e w1 ⟨rfl, rfl⟩)
                            go_ret
                            exact ⟨ret_int (R2.out Q.out).symm, B0.out.trans (BA.out.mono B0.out.size)⟩
                        · have t5 : decide (y3 < 0) = true := by rw [decide_eq_true_eq]; omega
                          have Q : Hid (q = 2) := Lib.hid (by rw [CV.out, decide_eq_true g1, decide_eq_true g2, decide_eq_true g3, decide_eq_true g4, goodB_f (by omega)]; rfl)
                          have T2 := T.out
                          obtain ⟨tt, htt⟩ : ∃ tt, isTurns y4 = tt := ⟨_, rfl⟩
                          rw [htt] at T2
                          clear htt T CV g1 g2 g3 g4 g5
                          go_wp2_with (go_at_call 17; refine (T2 _).mono ?_; rintro e w1 ⟨rfl, rfl⟩)
                          go_ret
                          exact ⟨ret_int (R2.out Q.out).symm, B0.out.trans (BA.out.mono B0.out.size)⟩
                      · have t4 : decide ((nB : Int) ≤ y2) = true := by rw [decide_eq_true_eq]; omega
                        have Q : Hid (q = 3) := Lib.hid (by rw [CV.out, decide_eq_true g1, decide_eq_true g2, decide_eq_true g3, decide_eq_false g4]; rfl)
                        clear CV T g1 g2 g3 g4
                        go_wp2
                        go_ret
                        exact ⟨ret_int (R3.out Q.out).symm, B0.out.trans (BA.out.mono B0.out.size)⟩
                    · have t3 : decide (y2 < 0) = true := by rw [decide_eq_true_eq]; omega
                      have Q : Hid (q = 3) := Lib.hid (by rw [CV.out, decide_eq_true g1, decide_eq_true g2, decide_eq_false g3]; rfl)
                      clear CV T g1 g2 g3
                      go_wp2
                      go_ret
                      exact ⟨ret_int (R3.out Q.out).symm, B0.out.trans (BA.out.mono B0.out.size)⟩
                  · have t2 : decide ((nB : Int) ≤ y1) = true := by rw [decide_eq_true_eq]; omega
                    have Q : Hid (q = 3) := Lib.hid (by rw [CV.out, decide_eq_true g1, decide_eq_false g2]; rfl)
                    clear CV T g1 g2
                    go_wp2
                    go_ret
                    exact ⟨ret_int (R3.out Q.out).symm, B0.out.trans (BA.out.mono B0.out.size)⟩
                · have t1 : decide (y1 < 0) = true := by rw [decide_eq_true_eq]; omega
                  have Q : Hid (q = 3) := Lib.hid (by rw [CV.out, decide_eq_false g1]; rfl)
                  clear CV T g1
                  go_wp2
                  go_ret
                  exact ⟨ret_int (R3.out Q.out).symm, B0.out.trans (BA.out.mono B0.out.size)⟩
              · obtain rfl : j = k := by omega
                have hcj := CJ.out
                rw [List.drop_eq_nil_of_le (by rw [LE.out]; exact Nat.le_refl _), chkL] at hcj
                have CR : Hid (chkS B E = 0) := Lib.hid (by rw [C.out, ← hcj])
                clear hcj
                go_wp2
                go_ret
                exact ⟨ret_int CR.out.symm, B0.out.trans (BV.out.mono B0.out.size)⟩
end Go.Proofs.YtgedcalplfnjmaaDoor
