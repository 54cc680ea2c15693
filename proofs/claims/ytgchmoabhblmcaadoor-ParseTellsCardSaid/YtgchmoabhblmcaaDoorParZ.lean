/-
  The reference's Same at two shapes that are the same. Conditions: at most 1000000 vertices, edges.
-/
import Derived.Test.YtgchmoabhblmcaaDoorParX
namespace Go.Proofs.YtgchmoabhblmcaaDoor
open Go.RowKit Go.Proofs.YtgchmoabhblmcaaDoor.LexM Go.Proofs.YtgchmoabhblmcaaDoor.ParM

def SmRel (n b : Nat) (w wr : World) (iv : Value) : Prop := ∃ k : Nat, iv = .int .i64 k ∧ k ≤ n ∧ Below b w wr
set_option maxHeartbeats 8000000 in
set_option maxRecDepth 100000 in
theorem refSame (bv ev cv dv : Value) (B : List Bool) (E : List Edg) (w : World) (hB : BlsAt w bv B) (hE : EdsAt w ev E) (hC : BlsAt w cv B) (hD : EdsAt w dv E) (h1 : B.length ≤ 1000000) (h2 : E.length ≤ 1000000) :
    Calls Tryd.prog 8 #[.agg #[bv, ev], .agg #[cv, dv]] w fun r w' => r = .returned (.bool true) ∧ Below w.heap.size w w' := by
  have HB := Lib.hid hB
  have HE := Lib.hid hE
  have HC := Lib.hid hC
  have HD := Lib.hid hD
  obtain ⟨nB, hnB⟩ : ∃ n, B.length = n := ⟨_, rfl⟩
  obtain ⟨nE, hnE⟩ : ∃ n, E.length = n := ⟨_, rfl⟩
  obtain ⟨A1, c1, e⟩ := hB.form
  rw [hnB] at e h1
  subst e
  obtain ⟨A2, c2, e⟩ := hE.form
  rw [hnE] at e h2
  subst e
  obtain ⟨A3, c3, e⟩ := hC.form
  rw [hnB] at e
  subst e
  obtain ⟨A4, c4, e⟩ := hD.form
  rw [hnE] at e
  subst e
  have LB := Lib.hid hnB
  have LE := Lib.hid hnE
  clear hB hE hC hD hnB hnE
  go_enter Tryd.func8, Tryd.ntmps8
  go_upto_region 1 with (fail)
  generalize hwb : World.alloc (World.alloc w _) _ = wb
  have b0 : Below w.heap.size w wb := by rw [← hwb]; exact ((Below.refl _ _).alloc (Nat.le_refl _) _).alloc (by simp) _
  have hk0 : wb.heap[w.heap.size]? = some (.cells #[.slice A1 nB c1, .slice A2 nE c2] 25 (0, 0)) := by rw [← hwb, Below.heap_alloc _ _ _ (by simp)]; exact heap_alloc_new w _
  have hk1 : wb.heap[w.heap.size + 1]? = some (.cells #[.slice A3 nB c3, .slice A4 nE c4] 25 (0, 0)) := by rw [← hwb]; exact heap_second w _ _
  have B0 := Lib.hid b0
  have K0 := Lib.hid hk0
  have K1 := Lib.hid hk1
  have hlt0 : w.heap.size + 1 < wb.heap.size := (Array.getElem?_eq_some_iff.1 hk1).1
  have xx : ∀ wr, Below wb.heap.size wb wr → wr.cell? ⟨w.heap.size, 0, none⟩ = some (.slice A1 nB c1) ∧ wr.cell? ⟨w.heap.size, 1, none⟩ = some (.slice A2 nE c2) ∧ wr.cell? ⟨w.heap.size + 1, 0, none⟩ = some (.slice A3 nB c3) ∧ wr.cell? ⟨w.heap.size + 1, 1, none⟩ = some (.slice A4 nE c4) ∧ w.heap.size < wr.heap.size ∧ w.heap.size + 1 < wr.heap.size := by
    intro wr b
    have h1 := b.block _ (show w.heap.size < wb.heap.size by omega)
    have h2 := b.block _ hlt0
    rw [hk0] at h1
    rw [hk1] at h2
    have h3 := b.size
    exact ⟨by simp [World.cell?, h1], by simp [World.cell?, h1], by simp [World.cell?, h2], by simp [World.cell?, h2], by omega, by omega⟩
  have XX := Lib.hid xx
  have EB := Lib.hid (HE.out.below b0 (Nat.le_refl _))
  have DB := Lib.hid (HD.out.below b0 (Nat.le_refl _))
  have BB := Lib.hid (HB.out.below b0 (Nat.le_refl _))
  have CB := Lib.hid (HC.out.below b0 (Nat.le_refl _))
  obtain ⟨x0, x1, x2, x3, x4, x5⟩ := xx wb (Below.refl _ _)
  clear hwb b0 hk0 hk1 xx
  go_wp2
  go_loopw [5] (fun iv wr => SmRel nB wb.heap.size wb wr iv) (fun iv _ => nB - (intOf iv).toNat)
  case atStart => exact ⟨0, rfl, Nat.zero_le _, Below.refl _ _⟩
  case round =>
    clear x0 x1 x2 x3 x4 x5
    obtain ⟨k, rfl, hk, hBW⟩ := hrel
    have BW := Lib.hid hBW
    obtain ⟨x0, x1, x2, x3, x4, x5⟩ := XX.out wr hBW
    clear hBW
    by_cases hlt : k < nB
    · have hkE : k < B.length := by rw [LB.out]; exact hlt
      obtain ⟨b, o, c', e, hb, d0⟩ := BB.out.nth hkE
      rw [LB.out] at e
      simp only [Value.slice.injEq, true_and] at e
      obtain ⟨rfl, rfl⟩ := e
      obtain ⟨b2, o2, c2', e, hb2, e0⟩ := CB.out.nth hkE
      rw [LB.out] at e
      simp only [Value.slice.injEq, true_and] at e
      obtain ⟨rfl, rfl⟩ := e
      have d1 := (BW.out.cell (p := ⟨b, o + k, none⟩) hb).trans d0
      have e1 := (BW.out.cell (p := ⟨b2, o2 + k, none⟩) hb2).trans e0
      have z1 := Nat.lt_of_lt_of_le hb BW.out.size
      have z2 := Nat.lt_of_lt_of_le hb2 BW.out.size
      generalize B[k] = x at d1 e1
      clear d0 e0
      go_wp2
      go_region
      all_goals
        go_wp2
        go_roundw
        case rel => exact ⟨k + 1, by go_num, by omega, BW.out.trans ((Below.refl _ _).drew.mono BW.out.size)⟩
        case measure => (simp [intOf] <;> omega)
    · obtain rfl : k = nB := by omega
      obtain ⟨wo, hwo⟩ : ∃ W, W = wr := ⟨_, rfl⟩
      subst hwo
      go_wp2
      go_loopw [6] (fun iv wr => SmRel nE wb.heap.size wb wr iv) (fun iv _ => nE - (intOf iv).toNat)
      case atStart => exact ⟨0, rfl, Nat.zero_le _, BW.out⟩
      case round =>
        clear x0 x1 x2 x3 x4 x5
        obtain ⟨k2, rfl, hk2, hBW⟩ := hrel
        have BV := Lib.hid hBW
        obtain ⟨x0, x1, x2, x3, x4, x5⟩ := XX.out wr hBW
        clear hBW
        by_cases hlt2 : k2 < nE
        · have hkE : k2 < E.length := by rw [LE.out]; exact hlt2
          obtain ⟨b, o, c', e, hb, d0, d1, d2, d3⟩ := EB.out.nth hkE
          rw [LE.out] at e
          simp only [Value.slice.injEq, true_and] at e
          obtain ⟨rfl, rfl⟩ := e
          obtain ⟨b2, o2, c2', e, hb2, e0, e1, e2, e3⟩ := DB.out.nth hkE
          rw [LE.out] at e
          simp only [Value.slice.injEq, true_and] at e
          obtain ⟨rfl, rfl⟩ := e
          have f0 := (BV.out.cell (p := ⟨b, o + k2 * 4, none⟩) hb).trans d0
          have f1 := (BV.out.cell (p := ⟨b, o + k2 * 4 + 1, none⟩) hb).trans d1
          have f2 := (BV.out.cell (p := ⟨b, o + k2 * 4 + 2, none⟩) hb).trans d2
          have f3 := (BV.out.cell (p := ⟨b, o + k2 * 4 + 3, none⟩) hb).trans d3
          have g0 := (BV.out.cell (p := ⟨b2, o2 + k2 * 4, none⟩) hb2).trans e0
          have g1 := (BV.out.cell (p := ⟨b2, o2 + k2 * 4 + 1, none⟩) hb2).trans e1
          have g2 := (BV.out.cell (p := ⟨b2, o2 + k2 * 4 + 2, none⟩) hb2).trans e2
          have g3 := (BV.out.cell (p := ⟨b2, o2 + k2 * 4 + 3, none⟩) hb2).trans e3
          have z1 := Nat.lt_of_lt_of_le hb BV.out.size
          have z2 := Nat.lt_of_lt_of_le hb2 BV.out.size
          generalize E[k2] = x at f0 f1 f2 f3 g0 g1 g2 g3
          clear d0 d1 d2 d3 e0 e1 e2 e3
          obtain ⟨y1, y2, y3, y4⟩ := x
          simp only at f0 f1 f2 f3 g0 g1 g2 g3
          have hq := fun W => neq_edge W y1 y2 y3 y1 y2 y3 y4 y4 false (by rw [edge_beq]; simp)
          go_wp2
          go_region
          all_goals
            go_wp2
            go_roundw
            case rel => exact ⟨k2 + 1, by go_num, by omega, BV.out.trans ((Below.refl _ _).drew.mono BV.out.size)⟩
            case measure => (simp [intOf] <;> omega)
        · obtain rfl : k2 = nE := by omega
          go_wp2
          go_ret
          exact ⟨rfl, B0.out.trans (BV.out.mono B0.out.size)⟩
end Go.Proofs.YtgchmoabhblmcaaDoor
