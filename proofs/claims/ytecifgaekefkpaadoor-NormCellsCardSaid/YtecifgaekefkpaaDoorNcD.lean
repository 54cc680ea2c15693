/-
  Has a point two ends on one side? Does an edge without bends go from a point to itself? What the code answers. Conditions: a shape that may be written; its ends side by side.
-/
import Derived.Test.YtecifgaekefkpaaDoorNcC
namespace Go.Proofs.YtecifgaekefkpaaDoor
open Go.RowKit Go.Proofs.YtecifgaekefkpaaDoor.LexM Go.Proofs.YtecifgaekefkpaaDoor.ParM Go.Proofs.YtecifgaekefkpaaDoor.GrM Go.Proofs.YtecifgaekefkpaaDoor.NmM

theorem OwnT.form {w : World} {B : Nat} {v : Value} {l : List (Int × Int)} (h : OwnT w B v l) : ∃ ao cap, v = .slice ao l.length cap := by
  rcases h.2 with ⟨h1, h2⟩ | ⟨_, _, _, h, _⟩
  · exact ⟨none, 0, by rw [h2]; exact h1⟩
  · exact ⟨_, _, h⟩
theorem enR_full {E : List Edg} {v d : Nat} (hd : d < 4) : enR E E.length (v * 4 + d) = (onL E (v : Int) (d : Int)).map (endP E) := by
  unfold enR onL
  rw [show (v * 4 + d) / 4 = v by omega, show (v * 4 + d) % 4 = d by omega]
/-- A vertex's four rows, loaded. -/
theorem EnAt.four {B : Nat} {w : World} {g N : Nat} {V : Nat → Value} {E : List Edg} (h : EnAt B w g N V (enR E E.length)) {v : Nat} (hv : v < N) :
    w.cell? ⟨g, v * 4, none⟩ = some (V (v * 4)) ∧ w.cell? ⟨g, v * 4 + 1, none⟩ = some (V (v * 4 + 1)) ∧ w.cell? ⟨g, v * 4 + 2, none⟩ = some (V (v * 4 + 2)) ∧ w.cell? ⟨g, v * 4 + 3, none⟩ = some (V (v * 4 + 3)) :=
  ⟨h.cell (by omega), h.cell (by omega), h.cell (by omega), h.cell (by omega)⟩
theorem EnAt.side {B : Nat} {w : World} {g N : Nat} {V : Nat → Value} {E : List Edg} (h : EnAt B w g N V (enR E E.length)) {v d : Nat} (hv : v < N) (hd : d < 4) :
    OwnT w B (V (v * 4 + d)) ((onL E (v : Int) (d : Int)).map (endP E)) ∧ ∃ A c, V (v * 4 + d) = .slice A (onL E (v : Int) (d : Int)).length c := by
  have h1 := h.rows (v * 4 + d) (by omega)
  rw [enR_full hd] at h1
  obtain ⟨A, c, e⟩ := h1.form
  exact ⟨h1, A, c, by rw [e, List.length_map]⟩
theorem ix0 (x0 x1 x2 x3 : Value) (w : World) : (Instr.index 79 (.agg #[x0, x1, x2, x3]) (.int .i64 0)).run Tryd.prog w = .ok x0 w := by kernel_rfl
theorem ix1 (x0 x1 x2 x3 : Value) (w : World) : (Instr.index 79 (.agg #[x0, x1, x2, x3]) (.int .i64 1)).run Tryd.prog w = .ok x1 w := by kernel_rfl
theorem ix2 (x0 x1 x2 x3 : Value) (w : World) : (Instr.index 79 (.agg #[x0, x1, x2, x3]) (.int .i64 2)).run Tryd.prog w = .ok x2 w := by kernel_rfl
theorem ix3 (x0 x1 x2 x3 : Value) (w : World) : (Instr.index 79 (.agg #[x0, x1, x2, x3]) (.int .i64 3)).run Tryd.prog w = .ok x3 w := by kernel_rfl
def CrR (B : List Bool) (E : List Edg) (nB : Nat) (w2 wr : World) (iv : Value) : Prop := ∃ k : Nat, iv = .int .i64 k ∧ k ≤ nB ∧ NoTwo B E k ∧ wr = w2
set_option maxHeartbeats 8000000 in
set_option maxRecDepth 100000 in
theorem crowdedY {w : World} {C g : Nat} {V : Nat → Value} (bv ev : Value) (B : List Bool) (E : List Edg) (hB : BlsAt w bv B) (hG : EnAt C w g B.length V (enR E E.length)) (hM : May B E) :
    Calls Tryd.prog 20 #[.agg #[bv, ev], .slice (some ⟨g, 0, none⟩) B.length B.length] w fun e w' => ∃ t, e = .returned (.bool t) ∧ (t = true ↔ TwoOn B E) ∧ Below w.heap.size w w' := by
  obtain ⟨AB, cB, e⟩ := hB.form
  subst e
  have HB := Lib.hid hB
  have HG := Lib.hid hG
  obtain ⟨nB, hnB⟩ : ∃ n, B.length = n := ⟨_, rfl⟩
  have hbl := hM.vs
  have LE : Hid (∀ (v d : Int), (onL E v d).length ≤ 8192) := Lib.hid (fun v d => by have h1 := onL_len E v d; have h2 := hM.es; omega)
  rw [hnB] at HB HG hbl ⊢
  have NB := Lib.hid hnB
  clear hB hG hM hnB
  go_enter Tryd.func20, Tryd.ntmps20
  go_upto_region 1 with (fail)
  obtain ⟨w1, hw1⟩ : ∃ W, W = (w.alloc (.cells #[.slice AB nB cB, ev] 29)) := ⟨_, rfl⟩
  have SB : Hid (ShB w1 w.heap.size (.slice AB nB cB) ev) := Lib.hid (by rw [hw1]; exact heap_alloc_new w _)
  have B1 : Hid (Below w.heap.size w w1) := Lib.hid (by rw [hw1]; exact (Below.refl _ _).alloc (Nat.le_refl _) _)
  rw [← hw1]
  clear hw1
  obtain ⟨x0, x1⟩ := SB.out.at_
  have xl := SB.out.lt
  have G1 := Lib.hid (HG.out.below B1.out (Nat.le_refl _))
  clear HG
  go_wp2_with fail
  go_loopw [12] (fun iv wr => CrR B E nB w1 wr iv) (fun iv _ => nB - (intOf iv).toNat)
  case atStart => exact ⟨0, rfl, Nat.zero_le _, fun v d hv => absurd hv (by omega), rfl⟩
  case round =>
    obtain ⟨k, rfl, hk, hT, rfl⟩ := hrel
    have TW := Lib.hid hT
    clear hT
    by_cases hlt : k < nB
    · have q1 : decide (k < nB) = true := decide_eq_true hlt
      have hkB : k < B.length := by have := NB.out; omega
      obtain ⟨bb, ob, rfl, hbb, y0⟩ := HB.out.one hkB
      have f0 := (B1.out.cell (p := ⟨bb, ob + k, none⟩) hbb).trans y0
      have hbw := Nat.lt_of_lt_of_le hbb B1.out.size
      obtain ⟨t, ht⟩ : ∃ t, B.getD k false = t := ⟨_, rfl⟩
      have HT := Lib.hid ht
      rw [ht] at f0
      clear ht y0
      cases t
      · obtain ⟨c0, c1, c2, c3⟩ := G1.out.four hlt
        have gl := G1.out.gl
        obtain ⟨_, A0, k0, e0⟩ := G1.out.side hlt (d := 0) (by decide)
        obtain ⟨_, A1, k1, e1⟩ := G1.out.side hlt (d := 1) (by decide)
        obtain ⟨_, A2, k2, e2⟩ := G1.out.side hlt (d := 2) (by decide)
        obtain ⟨_, A3, k3, e3⟩ := G1.out.side hlt (d := 3) (by decide)
        rw [Nat.add_zero] at e0
        rw [e0] at c0
        rw [e1] at c1
        rw [e2] at c2
        rw [e3] at c3
        clear e0 e1 e2 e3
        obtain ⟨n0, h0⟩ : ∃ n, (onL E (k : Int) ((0 : Nat) : Int)).length = n := ⟨_, rfl⟩
        obtain ⟨n1, h1⟩ : ∃ n, (onL E (k : Int) ((1 : Nat) : Int)).length = n := ⟨_, rfl⟩
        obtain ⟨n2, h2⟩ : ∃ n, (onL E (k : Int) ((2 : Nat) : Int)).length = n := ⟨_, rfl⟩
        obtain ⟨n3, h3⟩ : ∃ n, (onL E (k : Int) ((3 : Nat) : Int)).length = n := ⟨_, rfl⟩
        rw [h0] at c0
        rw [h1] at c1
        rw [h2] at c2
        rw [h3] at c3
        have H0 := Lib.hid h0
        have H1 := Lib.hid h1
        have H2 := Lib.hid h2
        have H3 := Lib.hid h3
        have YES : Hid (∀ d : Nat, d < 4 → 1 < (onL E (k : Int) (d : Int)).length → TwoOn B E) := Lib.hid (fun d hd h => ⟨k, d, hkB, hd, HT.out, h⟩)
        clear h0 h1 h2 h3
        have i0 := ix0 (.slice A0 n0 k0) (.slice A1 n1 k1) (.slice A2 n2 k2) (.slice A3 n3 k3)
        have i1 := ix1 (.slice A0 n0 k0) (.slice A1 n1 k1) (.slice A2 n2 k2) (.slice A3 n3 k3)
        have i2 := ix2 (.slice A0 n0 k0) (.slice A1 n1 k1) (.slice A2 n2 k2) (.slice A3 n3 k3)
        have i3 := ix3 (.slice A0 n0 k0) (.slice A1 n1 k1) (.slice A2 n2 k2) (.slice A3 n3 k3)
        go_wp2_with fail
        refine wp_loop_rounds 5 ?_
        rw [rounds_succ]
        by_cases g0 : 1 < n0
        · have p : decide (1 < n0) = true := decide_eq_true g0
          have p' : decide ((1 : Int) < (n0 : Int)) = true := decide_eq_true (by omega)
          have YE := Lib.hid (YES.out 0 (by decide) (by rw [H0.out]; exact g0))
          go_wp2_with fail
          go_ret
          exact ⟨true, rfl, iff_of_true rfl YE.out, B1.out⟩
        · have p : decide (1 < n0) = false := decide_eq_false g0
          have p' : decide ((1 : Int) < (n0 : Int)) = false := decide_eq_false (by omega)
          have G0 := Lib.hid g0
          clear g0
          go_wp2_with fail
          rw [rounds_succ]
          by_cases g1 : 1 < n1
          · have p2 : decide (1 < n1) = true := decide_eq_true g1
            have p2' : decide ((1 : Int) < (n1 : Int)) = true := decide_eq_true (by omega)
            have YE := Lib.hid (YES.out 1 (by decide) (by rw [H1.out]; exact g1))
            go_wp2_with fail
            go_ret
            exact ⟨true, rfl, iff_of_true rfl YE.out, B1.out⟩
          · have p2 : decide (1 < n1) = false := decide_eq_false g1
            have p2' : decide ((1 : Int) < (n1 : Int)) = false := decide_eq_false (by omega)
            have G1' := Lib.hid g1
            clear g1
            go_wp2_with fail
            rw [rounds_succ]
            by_cases g2 : 1 < n2
            · have p3 : decide (1 < n2) = true := decide_eq_true g2
              have p3' : decide ((1 : Int) < (n2 : Int)) = true := decide_eq_true (by omega)
              have YE := Lib.hid (YES.out 2 (by decide) (by rw [H2.out]; exact g2))
              go_wp2_with fail
              go_ret
              exact ⟨true, rfl, iff_of_true rfl YE.out, B1.out⟩
            · have p3 : decide (1 < n2) = false := decide_eq_false g2
              have p3' : decide ((1 : Int) < (n2 : Int)) = false := decide_eq_false (by omega)
              have G2' := Lib.hid g2
              clear g2
              go_wp2_with fail
              rw [rounds_succ]
              by_cases g3 : 1 < n3
              · have p4 : decide (1 < n3) = true := decide_eq_true g3
                have p4' : decide ((1 : Int) < (n3 : Int)) = true := decide_eq_true (by omega)
                have YE := Lib.hid (YES.out 3 (by decide) (by rw [H3.out]; exact g3))
                go_wp2_with fail
                go_ret
                exact ⟨true, rfl, iff_of_true rfl YE.out, B1.out⟩
              · have p4 : decide (1 < n3) = false := decide_eq_false g3
                have p4' : decide ((1 : Int) < (n3 : Int)) = false := decide_eq_false (by omega)
                have NX : Hid (NoTwo B E (k + 1)) := Lib.hid (fun v d hv hd hb => by
                  by_cases e : v = k
                  · subst e
                    have hc : d = 0 ∨ d = 1 ∨ d = 2 ∨ d = 3 := by omega
                    rcases hc with rfl | rfl | rfl | rfl
                    · rw [H0.out]; have := G0.out; omega
                    · rw [H1.out]; have := G1'.out; omega
                    · rw [H2.out]; have := G2'.out; omega
                    · rw [H3.out]; omega
                  · exact TW.out v d (by omega) hd hb)
                clear g3
                go_wp2_with fail
                rw [rounds_succ]
                go_wp2_with fail
                go_roundw
                case rel => exact ⟨k + 1, by go_num, by omega, NX.out, rfl⟩
                case measure => (simp [intOf] <;> omega)
      · have NX : Hid (NoTwo B E (k + 1)) := Lib.hid (fun v d hv hd hb => by
          by_cases e : v = k
          · subst e; rw [HT.out] at hb; cases hb
          · exact TW.out v d (by omega) hd hb)
        go_wp2_with fail
        go_roundw
        case rel => exact ⟨k + 1, by go_num, by omega, NX.out, rfl⟩
        case measure => (simp [intOf] <;> omega)
    · have hkn : k = nB := by omega
      have q1 : decide (k < nB) = false := decide_eq_false hlt
      have T2 : Hid (¬ TwoOn B E) := Lib.hid (by
        rintro ⟨v, d, hv, hd, hb, h1⟩
        have := TW.out v d (by have := NB.out; omega) hd hb
        omega)
      go_wp2_with fail
      go_ret
      exact ⟨false, rfl, iff_of_false (by decide) T2.out, B1.out⟩
def StR (B : List Bool) (E : List Edg) (nE : Nat) (wb wr : World) (iv : Value) : Prop := ∃ k : Nat, iv = .int .i64 k ∧ k ≤ nE ∧ NoSelf B E k ∧ Below wb.heap.size wb wr
set_option maxHeartbeats 8000000 in
set_option maxRecDepth 100000 in
theorem straightY {w : World} (bv ev : Value) (B : List Bool) (E : List Edg) (hB : BlsAt w bv B) (hE : EdsAt w ev E) (hM : May B E) :
    Calls Tryd.prog 21 #[.agg #[bv, ev]] w fun e w' => ∃ t, e = .returned (.bool t) ∧ (t = true ↔ SelfT B E) ∧ Below w.heap.size w w' := by
  obtain ⟨AB, cB, e⟩ := hB.form
  subst e
  obtain ⟨AE, cE, e⟩ := hE.form
  subst e
  have HB := Lib.hid hB
  have HE := Lib.hid hE
  have HM := Lib.hid hM
  obtain ⟨nB, hnB⟩ : ∃ n, B.length = n := ⟨_, rfl⟩
  obtain ⟨nE, hnE⟩ : ∃ n, E.length = n := ⟨_, rfl⟩
  have hbl := hM.vs
  have hel := hM.es
  rw [hnB] at HB hbl ⊢
  rw [hnE] at HE hel ⊢
  have NB := Lib.hid hnB
  have NE := Lib.hid hnE
  clear hB hE hM hnB hnE
  go_enter Tryd.func21, Tryd.ntmps21
  go_upto_region 1 with (fail)
  obtain ⟨w1, hw1⟩ : ∃ W, W = (w.alloc (.cells #[.slice AB nB cB, .slice AE nE cE] 29)) := ⟨_, rfl⟩
  have SB : Hid (ShB w1 w.heap.size (.slice AB nB cB) (.slice AE nE cE)) := Lib.hid (by rw [hw1]; exact heap_alloc_new w _)
  have B1 : Hid (Below w.heap.size w w1) := Lib.hid (by rw [hw1]; exact (Below.refl _ _).alloc (Nat.le_refl _) _)
  rw [← hw1]
  clear hw1
  obtain ⟨x0, x1⟩ := SB.out.at_
  have xl := SB.out.lt
  go_wp2_with fail
  go_loopw [8] (fun iv wr => StR B E nE w1 wr iv) (fun iv _ => nE - (intOf iv).toNat)
  case atStart => exact ⟨0, rfl, Nat.zero_le _, fun i hi => absurd hi (by omega), Below.refl _ _⟩
  case round =>
    obtain ⟨i, rfl, hi, hS, hD2⟩ := hrel
    have D2 := Lib.hid hD2
    have NS := Lib.hid hS
    have S3 := Lib.hid (SB.out.below hD2 (Nat.le_refl _))
    clear x0 x1 xl
    obtain ⟨x0, x1⟩ := S3.out.at_
    have xl := S3.out.lt
    have B3 := Lib.hid (B1.out.trans (hD2.mono B1.out.size))
    clear hD2 hS
    by_cases hlt2 : i < nE
    · have q2 : decide (i < nE) = true := decide_eq_true hlt2
      have hiE : i < E.length := by have := NE.out; omega
      obtain ⟨be, oe, rfl, hbe2, y0, y1, y2, y3⟩ := HE.out.one hiE
      have f0 := (B3.out.cell (p := ⟨be, oe + i * 4, none⟩) hbe2).trans y0
      have f1 := (B3.out.cell (p := ⟨be, oe + i * 4 + 1, none⟩) hbe2).trans y1
      have f2 := (B3.out.cell (p := ⟨be, oe + i * 4 + 2, none⟩) hbe2).trans y2
      have f3 := (B3.out.cell (p := ⟨be, oe + i * 4 + 3, none⟩) hbe2).trans y3
      have hbw := Nat.lt_of_lt_of_le hbe2 B3.out.size
      have GE : Hid (E.getD i noE = E[i]) := Lib.hid (by rw [List.getD_eq_getElem?_getD, List.getElem?_eq_getElem hiE]; rfl)
      have hk1 := HM.out.ok E[i] (List.getElem_mem hiE)
      obtain ⟨a, ha⟩ : ∃ a : Nat, E[i].1 = (a : Int) := ⟨E[i].1.toNat, by have := hk1.1; omega⟩
      have haB : a < B.length := by have := hk1.2.1; omega
      have haN : a < nB := by have := NB.out; omega
      obtain ⟨bb, ob, rfl, hbb, z0⟩ := HB.out.one haB
      have g0 := (B3.out.cell (p := ⟨bb, ob + a, none⟩) hbb).trans z0
      have hbb2 := Nat.lt_of_lt_of_le hbb B3.out.size
      clear y0 y1 y2 y3 z0 hk1 hbb hbe2
      have HA := Lib.hid ha
      rw [ha] at f0
      obtain ⟨tk, htk⟩ : ∃ x, E[i].2.1 = x := ⟨_, rfl⟩
      rw [htk] at f1
      by_cases c1 : (a : Int) = tk
      · have p1 : ((a : Int) == tk) = true := by rw [beq_iff_eq]; exact c1
        by_cases c2 : E[i].2.2.2 = []
        · have hs0 : bs E[i].2.2.2 = ⟨#[]⟩ := by rw [c2]; rfl
          rw [hs0] at f3
          obtain ⟨t, ht⟩ : ∃ t, B.getD a false = t := ⟨_, rfl⟩
          have HT := Lib.hid ht
          rw [ht] at g0
          have C1 := Lib.hid c1
          have C2 := Lib.hid c2
          have HTK := Lib.hid htk
          clear ht c1 c2 hs0 ha htk
          cases t
          · have EQ : Hid (SelfT B E) := Lib.hid ⟨i, hiE, by rw [GE.out, HA.out, HTK.out]; exact C1.out, by rw [GE.out]; exact C2.out, by rw [GE.out, HA.out, Int.toNat_natCast]; exact HT.out⟩
            go_wp2_with fail
            go_ret
            exact ⟨true, rfl, iff_of_true rfl EQ.out, B3.out.alloc B3.out.size _⟩
          · have NX : Hid (NoSelf B E (i + 1)) := Lib.hid (fun q hq => by
              by_cases e : q = i
              · subst e; rw [GE.out]; rintro ⟨_, _, h⟩; rw [HA.out, Int.toNat_natCast, HT.out] at h; cases h
              · exact NS.out q (by omega))
            go_wp2_with fail
            go_roundw
            case rel => exact ⟨i + 1, by go_num, by omega, NX.out, D2.out.alloc D2.out.size _⟩
            case measure => (simp [intOf] <;> omega)
        · have hs0 : ¬ (bs E[i].2.2.2).toList = [] := fun h => c2 (by
            rw [Lib.toList_data, bs_data] at h
            exact h)
          have NX : Hid (NoSelf B E (i + 1)) := Lib.hid (fun q hq => by
            by_cases e : q = i
            · subst e; rw [GE.out]; rintro ⟨_, h, _⟩; exact c2 h
            · exact NS.out q (by omega))
          have hs1 : ((bs E[i].2.2.2).toList == []) = false := by rw [beq_eq_false_iff_ne]; exact hs0
          have hs2 : (bs E[i].2.2.2).toList.isEmpty = false := by
            cases h : (bs E[i].2.2.2).toList with
            | nil => exact absurd h hs0
            | cons _ _ => rfl
          clear c1 c2 ha htk
          generalize bs E[i].2.2.2 = sk at *
          go_wp2_with fail
          go_roundw
          case rel => exact ⟨i + 1, by go_num, by omega, NX.out, D2.out.alloc D2.out.size _⟩
          case measure => (simp [intOf] <;> omega)
      · have p1 : ((a : Int) == tk) = false := by rw [beq_eq_false_iff_ne]; exact c1
        have NX : Hid (NoSelf B E (i + 1)) := Lib.hid (fun q hq => by
          by_cases e : q = i
          · subst e; rw [GE.out]; rintro ⟨h, _, _⟩; rw [HA.out, htk] at h; exact c1 h
          · exact NS.out q (by omega))
        clear c1 ha htk
        generalize bs E[i].2.2.2 = sk at *
        go_wp2_with fail
        go_roundw
        case rel => exact ⟨i + 1, by go_num, by omega, NX.out, D2.out.alloc D2.out.size _⟩
        case measure => (simp [intOf] <;> omega)
    · have hin : i = nE := by omega
      have q2 : decide (i < nE) = false := decide_eq_false hlt2
      have EQ : Hid (¬ SelfT B E) := Lib.hid (by
        rintro ⟨q, hq, h1, h2, h3⟩
        exact NS.out q (by have := NE.out; omega) ⟨h1, h2, h3⟩)
      go_wp2_with fail
      go_ret
      exact ⟨false, rfl, iff_of_false (by decide) EQ.out, B3.out⟩
end Go.Proofs.YtecifgaekefkpaaDoor
