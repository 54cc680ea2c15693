/-
  The reference's Same at any two shapes. Conditions: at most 1000000 vertices, edges.
-/
import Derived.Test.YtgedcalplfnjmaaDoorParX
import Derived.Deep.CutRange
namespace Go.Proofs.YtgedcalplfnjmaaDoor
open Go.RowKit Go.Proofs.YtgedcalplfnjmaaDoor.LexM Go.Proofs.YtgedcalplfnjmaaDoor.ParM

def SgRel {α : Type} (L M : List α) (b : Nat) (w wr : World) (iv : Value) : Prop := ∃ k : Nat, iv = .int .i64 k ∧ k ≤ L.length ∧ L.take k = M.take k ∧ Below b w wr
set_option maxHeartbeats 8000000 in
set_option maxRecDepth 100000 in
theorem refSame_len (bv ev cv dv : Value) (B C : List Bool) (E F : List Edg) (w : World) (hB : BlsAt w bv B) (hE : EdsAt w ev E) (hC : BlsAt w cv C) (hD : EdsAt w dv F) (hne : B.length ≠ C.length ∨ E.length ≠ F.length) :
    Calls Tryd.prog 11 #[.agg #[bv, ev], .agg #[cv, dv]] w fun r w' => r = .returned (.bool false) ∧ Below w.heap.size w w' := by
  obtain ⟨nB, hnB⟩ : ∃ n, B.length = n := ⟨_, rfl⟩
  obtain ⟨nE, hnE⟩ : ∃ n, E.length = n := ⟨_, rfl⟩
  obtain ⟨nC, hnC⟩ : ∃ n, C.length = n := ⟨_, rfl⟩
  obtain ⟨nF, hnF⟩ : ∃ n, F.length = n := ⟨_, rfl⟩
  obtain ⟨A1, c1, e⟩ := hB.form
  rw [hnB] at e
  subst e
  obtain ⟨A2, c2, e⟩ := hE.form
  rw [hnE] at e
  subst e
  obtain ⟨A3, c3, e⟩ := hC.form
  rw [hnC] at e
  subst e
  obtain ⟨A4, c4, e⟩ := hD.form
  rw [hnF] at e
  subst e
  rw [hnB, hnC, hnE, hnF] at hne
  clear hB hE hC hD hnB hnE hnC hnF
  by_cases hb : nB = nC
  · subst hb
    have hne2 : nE ≠ nF := hne.resolve_left (fun h => h rfl)
    have q1 : ((nB : Int) == (nB : Int)) = true := by simp
    have q2 : ((nE : Int) == (nF : Int)) = false := by rw [beq_eq_false_iff_ne]; omega
    clear hne hne2
    go_enter Tryd.func11, Tryd.ntmps11
    go_upto_region 1 with (fail)
    generalize hwb : World.alloc (World.alloc w _) _ = wb
    have b0 : Below w.heap.size w wb := by rw [← hwb]; exact ((Below.refl _ _).alloc (Nat.le_refl _) _).alloc (by simp) _
    have hk0 : wb.heap[w.heap.size]? = some (.cells #[.slice A1 nB c1, .slice A2 nE c2] 31 (0, 0)) := by rw [← hwb, Below.heap_alloc _ _ _ (by simp)]; exact heap_alloc_new w _
    have hk1 : wb.heap[w.heap.size + 1]? = some (.cells #[.slice A3 nB c3, .slice A4 nF c4] 31 (0, 0)) := by rw [← hwb]; exact heap_second w _ _
    have B0 := Lib.hid b0
    have x0 : wb.cell? ⟨w.heap.size, 0, none⟩ = some (.slice A1 nB c1) := by simp [World.cell?, hk0]
    have x1 : wb.cell? ⟨w.heap.size, 1, none⟩ = some (.slice A2 nE c2) := by simp [World.cell?, hk0]
    have x2 : wb.cell? ⟨w.heap.size + 1, 0, none⟩ = some (.slice A3 nB c3) := by simp [World.cell?, hk1]
    have x3 : wb.cell? ⟨w.heap.size + 1, 1, none⟩ = some (.slice A4 nF c4) := by simp [World.cell?, hk1]
    have x5 : w.heap.size + 1 < wb.heap.size := (Array.getElem?_eq_some_iff.1 hk1).1
    clear hwb b0 hk0 hk1
    go_wp2
    go_ret
    exact ⟨rfl, B0.out⟩
  · have q1 : ((nB : Int) == (nC : Int)) = false := by rw [beq_eq_false_iff_ne]; omega
    clear hne hb
    go_enter Tryd.func11, Tryd.ntmps11
    go_upto_region 1 with (fail)
    generalize hwb : World.alloc (World.alloc w _) _ = wb
    have b0 : Below w.heap.size w wb := by rw [← hwb]; exact ((Below.refl _ _).alloc (Nat.le_refl _) _).alloc (by simp) _
    have hk0 : wb.heap[w.heap.size]? = some (.cells #[.slice A1 nB c1, .slice A2 nE c2] 31 (0, 0)) := by rw [← hwb, Below.heap_alloc _ _ _ (by simp)]; exact heap_alloc_new w _
    have hk1 : wb.heap[w.heap.size + 1]? = some (.cells #[.slice A3 nC c3, .slice A4 nF c4] 31 (0, 0)) := by rw [← hwb]; exact heap_second w _ _
    have B0 := Lib.hid b0
    have x0 : wb.cell? ⟨w.heap.size, 0, none⟩ = some (.slice A1 nB c1) := by simp [World.cell?, hk0]
    have x1 : wb.cell? ⟨w.heap.size, 1, none⟩ = some (.slice A2 nE c2) := by simp [World.cell?, hk0]
    have x2 : wb.cell? ⟨w.heap.size + 1, 0, none⟩ = some (.slice A3 nC c3) := by simp [World.cell?, hk1]
    have x3 : wb.cell? ⟨w.heap.size + 1, 1, none⟩ = some (.slice A4 nF c4) := by simp [World.cell?, hk1]
    have x5 : w.heap.size + 1 < wb.heap.size := (Array.getElem?_eq_some_iff.1 hk1).1
    clear hwb b0 hk0 hk1
    go_wp2
    go_ret
    exact ⟨rfl, B0.out⟩
set_option maxHeartbeats 8000000 in
set_option maxRecDepth 100000 in
theorem refSame_eq (bv ev cv dv : Value) (B C : List Bool) (E F : List Edg) (w : World) (hB : BlsAt w bv B) (hE : EdsAt w ev E) (hC : BlsAt w cv C) (hD : EdsAt w dv F) (h1 : B.length ≤ 1000000) (h2 : E.length ≤ 1000000) (hBC : C.length = B.length) (hEF : F.length = E.length) :
    Calls Tryd.prog 11 #[.agg #[bv, ev], .agg #[cv, dv]] w fun r w' => r = .returned (.bool (decide (B = C) && decide (E = F))) ∧ Below w.heap.size w w' := by
  have HB := Lib.hid hB
  have HE := Lib.hid hE
  have HC := Lib.hid hC
  have HD := Lib.hid hD
  obtain ⟨nB, hnB⟩ : ∃ n, B.length = n := ⟨_, rfl⟩
  obtain ⟨nE, hnE⟩ : ∃ n, E.length = n := ⟨_, rfl⟩
  obtain ⟨A1, c1, e⟩ := hB.form
  rw [hnB] at e h1
  subst e
  obtain ⟨A2, c2, e⟩ := hE.form
  rw [hnE] at e h2
  subst e
  obtain ⟨A3, c3, e⟩ := hC.form
  rw [hBC, hnB] at e
  subst e
  obtain ⟨A4, c4, e⟩ := hD.form
  rw [hEF, hnE] at e
  subst e
  have LB := Lib.hid hnB
  have LE := Lib.hid hnE
  have LC := Lib.hid (hBC.trans hnB)
  have LF := Lib.hid (hEF.trans hnE)
  clear hB hE hC hD hnB hnE hBC hEF
  go_enter Tryd.func11, Tryd.ntmps11
  go_upto_region 1 with (fail)
  generalize hwb : World.alloc (World.alloc w _) _ = wb
  have b0 : Below w.heap.size w wb := by rw [← hwb]; exact ((Below.refl _ _).alloc (Nat.le_refl _) _).alloc (by simp) _
  have hk0 : wb.heap[w.heap.size]? = some (.cells #[.slice A1 nB c1, .slice A2 nE c2] 31 (0, 0)) := by rw [← hwb, Below.heap_alloc _ _ _ (by simp)]; exact heap_alloc_new w _
  have hk1 : wb.heap[w.heap.size + 1]? = some (.cells #[.slice A3 nB c3, .slice A4 nE c4] 31 (0, 0)) := by rw [← hwb]; exact heap_second w _ _
  have B0 := Lib.hid b0
  have K0 := Lib.hid hk0
  have K1 := Lib.hid hk1
  have hlt0 : w.heap.size + 1 < wb.heap.size := (Array.getElem?_eq_some_iff.1 hk1).1
  have xx : ∀ wr, Below wb.heap.size wb wr → wr.cell? ⟨w.heap.size, 0, none⟩ = some (.slice A1 nB c1) ∧ wr.cell? ⟨w.heap.size, 1, none⟩ = some (.slice A2 nE c2) ∧ wr.cell? ⟨w.heap.size + 1, 0, none⟩ = some (.slice A3 nB c3) ∧ wr.cell? ⟨w.heap.size + 1, 1, none⟩ = some (.slice A4 nE c4) ∧ w.heap.size < wr.heap.size ∧ w.heap.size + 1 < wr.heap.size := by
    intro wr b
    have h1 := b.block _ (show w.heap.size < wb.heap.size by omega)
    have h2 := b.block _ hlt0
    rw [hk0] at h1
    rw [hk1] at h2
    have h3 := b.size
    exact ⟨by simp [World.cell?, h1], by simp [World.cell?, h1], by simp [World.cell?, h2], by simp [World.cell?, h2], by omega, by omega⟩
  have XX := Lib.hid xx
  have EB := Lib.hid (HE.out.below b0 (Nat.le_refl _))
  have DB := Lib.hid (HD.out.below b0 (Nat.le_refl _))
  have BB := Lib.hid (HB.out.below b0 (Nat.le_refl _))
  have CB := Lib.hid (HC.out.below b0 (Nat.le_refl _))
  obtain ⟨x0, x1, x2, x3, x4, x5⟩ := xx wb (Below.refl _ _)
  clear hwb b0 hk0 hk1 xx
  go_wp2
  go_loopw [5] (fun iv wr => SgRel B C wb.heap.size wb wr iv) (fun iv _ => nB - (intOf iv).toNat)
  case atStart => exact ⟨0, rfl, Nat.zero_le _, rfl, Below.refl _ _⟩
  case round =>
    clear x0 x1 x2 x3 x4 x5
    obtain ⟨k, rfl, hk, htk, hBW⟩ := hrel
    rw [LB.out] at hk
    have TK := Lib.hid htk
    clear htk
    have BW := Lib.hid hBW
    obtain ⟨x0, x1, x2, x3, x4, x5⟩ := XX.out wr hBW
    clear hBW
    by_cases hlt : k < nB
    · have hkE : k < B.length := by rw [LB.out]; exact hlt
      obtain ⟨b, o, c', e, hb, d0⟩ := BB.out.nth hkE
      rw [LB.out] at e
      simp only [Value.slice.injEq, true_and] at e
      obtain ⟨rfl, rfl⟩ := e
      have hkC : k < C.length := by rw [LC.out]; exact hlt
      obtain ⟨b2, o2, c2', e, hb2, e0⟩ := CB.out.nth hkC
      rw [LC.out] at e
      simp only [Value.slice.injEq, true_and] at e
      obtain ⟨rfl, rfl⟩ := e
      have d1 := (BW.out.cell (p := ⟨b, o + k, none⟩) hb).trans d0
      have e1 := (BW.out.cell (p := ⟨b2, o2 + k, none⟩) hb2).trans e0
      have z1 := Nat.lt_of_lt_of_le hb BW.out.size
      have z2 := Nat.lt_of_lt_of_le hb2 BW.out.size
      by_cases hxy : B[k] = C[k]
      · have T2 := Lib.hid ((take_same TK.out hkE hkC).2 hxy)
        rw [hxy] at d1
        generalize C[k] = x at d1 e1
        clear d0 e0 hxy
        go_wp2
        go_region
        all_goals
          go_wp2
          go_roundw
          case rel => exact ⟨k + 1, by go_num, by rw [LB.out]; omega, T2.out, BW.out.trans ((Below.refl _ _).drew.mono BW.out.size)⟩
          case measure => (simp [intOf] <;> omega)
      · have NE : Hid ((decide (B = C) && decide (E = F)) = false) := Lib.hid (by rw [decide_eq_false (ne_take hkE hkC hxy)]; rfl)
        obtain ⟨x, hx⟩ : ∃ x, B[k] = x := ⟨_, rfl⟩
        obtain ⟨y, hy⟩ : ∃ y, C[k] = y := ⟨_, rfl⟩
        rw [hx] at d1 hxy
        rw [hy] at e1 hxy
        have hq : (x == y) = false := by simpa using hxy
        clear d0 e0 hx hy hxy
        go_wp2
        go_region
        all_goals
          go_wp2
          go_ret
          exact ⟨by rw [NE.out]; rfl, B0.out.trans ((BW.out.trans ((Below.refl _ _).drew.mono BW.out.size)).mono B0.out.size)⟩
    · obtain rfl : k = nB := by omega
      have EBC : Hid (B = C) := Lib.hid (by have h := TK.out; rwa [List.take_of_length_le (by rw [LB.out]; exact Nat.le_refl _), List.take_of_length_le (by rw [LC.out]; exact Nat.le_refl _)] at h)
      obtain ⟨wo, hwo⟩ : ∃ W, W = wr := ⟨_, rfl⟩
      subst hwo
      go_wp2
      go_loopw [6] (fun iv wr => SgRel E F wb.heap.size wb wr iv) (fun iv _ => nE - (intOf iv).toNat)
      case atStart => exact ⟨0, rfl, Nat.zero_le _, rfl, BW.out⟩
      case round =>
        clear x0 x1 x2 x3 x4 x5
        obtain ⟨k2, rfl, hk2, htk, hBW⟩ := hrel
        rw [LE.out] at hk2
        have TE := Lib.hid htk
        clear htk
        have BV := Lib.hid hBW
        obtain ⟨x0, x1, x2, x3, x4, x5⟩ := XX.out wr hBW
        clear hBW
        by_cases hlt2 : k2 < nE
        · have hkE : k2 < E.length := by rw [LE.out]; exact hlt2
          obtain ⟨b, o, c', e, hb, d0, d1, d2, d3⟩ := EB.out.nth hkE
          rw [LE.out] at e
          simp only [Value.slice.injEq, true_and] at e
          obtain ⟨rfl, rfl⟩ := e
          have hkF : k2 < F.length := by rw [LF.out]; exact hlt2
          obtain ⟨b2, o2, c2', e, hb2, e0, e1, e2, e3⟩ := DB.out.nth hkF
          rw [LF.out] at e
          simp only [Value.slice.injEq, true_and] at e
          obtain ⟨rfl, rfl⟩ := e
          have f0 := (BV.out.cell (p := ⟨b, o + k2 * 4, none⟩) hb).trans d0
          have f1 := (BV.out.cell (p := ⟨b, o + k2 * 4 + 1, none⟩) hb).trans d1
          have f2 := (BV.out.cell (p := ⟨b, o + k2 * 4 + 2, none⟩) hb).trans d2
          have f3 := (BV.out.cell (p := ⟨b, o + k2 * 4 + 3, none⟩) hb).trans d3
          have g0 := (BV.out.cell (p := ⟨b2, o2 + k2 * 4, none⟩) hb2).trans e0
          have g1 := (BV.out.cell (p := ⟨b2, o2 + k2 * 4 + 1, none⟩) hb2).trans e1
          have g2 := (BV.out.cell (p := ⟨b2, o2 + k2 * 4 + 2, none⟩) hb2).trans e2
          have g3 := (BV.out.cell (p := ⟨b2, o2 + k2 * 4 + 3, none⟩) hb2).trans e3
          have z1 := Nat.lt_of_lt_of_le hb BV.out.size
          have z2 := Nat.lt_of_lt_of_le hb2 BV.out.size
          by_cases hxy : E[k2] = F[k2]
          · have T2 := Lib.hid ((take_same TE.out hkE hkF).2 hxy)
            rw [hxy] at f0 f1 f2 f3
            generalize F[k2] = x at f0 f1 f2 f3 g0 g1 g2 g3
            clear d0 d1 d2 d3 e0 e1 e2 e3 hxy
            obtain ⟨y1, y2, y3, y4⟩ := x
            simp only at f0 f1 f2 f3 g0 g1 g2 g3
            have hq := fun W => neq_edge W y1 y2 y3 y1 y2 y3 y4 y4 false (by rw [edge_beq]; simp)
            go_wp2
            go_region
            all_goals
              go_wp2
              go_roundw
              case rel => exact ⟨k2 + 1, by go_num, by rw [LE.out]; omega, T2.out, BV.out.trans ((Below.refl _ _).drew.mono BV.out.size)⟩
              case measure => (simp [intOf] <;> omega)
          · have NE : Hid ((decide (B = C) && decide (E = F)) = false) := Lib.hid (by rw [decide_eq_false (ne_take hkE hkF hxy)]; simp)
            obtain ⟨x, hx⟩ : ∃ x, E[k2] = x := ⟨_, rfl⟩
            obtain ⟨y, hy⟩ : ∃ y, F[k2] = y := ⟨_, rfl⟩
            rw [hx] at f0 f1 f2 f3 hxy
            rw [hy] at g0 g1 g2 g3 hxy
            clear d0 d1 d2 d3 e0 e1 e2 e3 hx hy
            obtain ⟨y1, y2, y3, y4⟩ := x
            obtain ⟨u1, u2, u3, u4⟩ := y
            simp only at f0 f1 f2 f3 g0 g1 g2 g3
            have hq := fun W => neq_edge W y1 y2 y3 u1 u2 u3 y4 u4 true (by rw [edge_beq, decide_eq_false hxy]; rfl)
            clear hxy
            go_wp2
            go_region
            all_goals
              go_wp2
              go_ret
              exact ⟨by rw [NE.out]; rfl, B0.out.trans ((BV.out.trans ((Below.refl _ _).drew.mono BV.out.size)).mono B0.out.size)⟩
        · obtain rfl : k2 = nE := by omega
          have EEF : Hid (E = F) := Lib.hid (by have h := TE.out; rwa [List.take_of_length_le (by rw [LE.out]; exact Nat.le_refl _), List.take_of_length_le (by rw [LF.out]; exact Nat.le_refl _)] at h)
          go_wp2
          go_ret
          exact ⟨by rw [decide_eq_true EBC.out, decide_eq_true EEF.out]; rfl, B0.out.trans (BV.out.mono B0.out.size)⟩
/-- Same, of any two shapes. -/
theorem refSameG (bv ev cv dv : Value) (B C : List Bool) (E F : List Edg) (w : World) (hB : BlsAt w bv B) (hE : EdsAt w ev E) (hC : BlsAt w cv C) (hD : EdsAt w dv F) (h1 : B.length ≤ 1000000) (h2 : E.length ≤ 1000000) :
    Calls Tryd.prog 11 #[.agg #[bv, ev], .agg #[cv, dv]] w fun r w' => r = .returned (.bool (decide (B = C) && decide (E = F))) ∧ Below w.heap.size w w' := by
  by_cases h : B.length = C.length ∧ E.length = F.length
  · exact refSame_eq bv ev cv dv B C E F w hB hE hC hD h1 h2 h.1.symm h.2.symm
  · have e : (decide (B = C) && decide (E = F)) = false := by
      by_cases hb : B = C
      · have he : E ≠ F := fun he => h ⟨by rw [hb], by rw [he]⟩
        rw [decide_eq_false he]; simp
      · rw [decide_eq_false hb]; rfl
    rw [e]
    exact refSame_len bv ev cv dv B C E F w hB hE hC hD (by omega)
end Go.Proofs.YtgedcalplfnjmaaDoor
