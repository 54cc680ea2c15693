/-
  CompassSteps: the walk: at every int and every point the call answers true and turns nothing that was there. Conditions: the world holds the two tables.
-/
import Derived.Test.YtnfaebcbcmodmaaDoorCompassC
namespace Go.Proofs.YtnfaebcbcmodmaaDoor
open Go.RowKit

theorem tmod1000 (t : Int) : -999 ≤ t.tmod 1000 ∧ t.tmod 1000 ≤ 999 := by
  rcases Int.le_total 0 t with h | h
  · rw [Int.tmod_eq_emod_of_nonneg h]; omega
  · have e : t = - (-t) := by omega
    have k : t.tmod 1000 = - ((-t) % 1000) := by
      rw [e, Int.neg_tmod, Int.tmod_eq_emod_of_nonneg (by omega)]; simp
    rw [k]; omega

theorem left_good (d t : Int) (w : World) (h0 : 0 ≤ d) (h1 : d < 4) : Calls Tryd.prog 10 #[.int .i64 d, .int .i64 t] w fun e w' => e = .returned (.int .i64 ((d + t) % 4)) ∧ w = w' := by
  rw [← leftI_t h0 h1]; exact kept (left_any d t w)

theorem btw_E {ax ay bx b : Int} (h : bx = ax + 1) (k : b = ay) : btwI ax ay bx b = 0 := by
  subst h k; unfold btwI
  have c1 : (ax == ax + 1) = false := by apply beq_false_of_ne; omega
  rw [c1, show (b == b) = true by simp, if_neg (by decide), if_pos (by omega)]
theorem btw_N {ax ay bx b : Int} (h : bx = ax) (k : b = ay + 1) : btwI ax ay bx b = 1 := by
  subst h k; unfold btwI
  have c1 : (ay == ay + 1) = false := by apply beq_false_of_ne; omega
  rw [c1, show (bx == bx) = true by simp, if_neg (by decide), if_neg (by omega), if_pos (by omega)]
theorem btw_W {ax ay bx b : Int} (h : bx = ax - 1) (k : b = ay) : btwI ax ay bx b = 2 := by
  subst h k; unfold btwI
  have c1 : (ax == ax - 1) = false := by apply beq_false_of_ne; omega
  rw [c1, show (b == b) = true by simp, if_neg (by decide), if_neg (by omega), if_neg (by omega), if_pos (by omega)]
theorem btw_S {ax ay bx b : Int} (h : bx = ax) (k : b = ay - 1) : btwI ax ay bx b = 3 := by
  subst h k; unfold btwI
  have c1 : (ay == ay - 1) = false := by apply beq_false_of_ne; omega
  rw [c1, show (bx == bx) = true by simp, if_neg (by decide), if_neg (by omega), if_neg (by omega), if_neg (by omega)]

theorem step_E (w : World) (hT : Tabs w) : Calls Tryd.prog 19 #[.int .i64 0] w fun e w' => e = .returned (.agg #[.int .i64 1, .int .i64 0]) ∧ Below w.heap.size w w' := step_any 0 w hT
theorem step_N (w : World) (hT : Tabs w) : Calls Tryd.prog 19 #[.int .i64 1] w fun e w' => e = .returned (.agg #[.int .i64 0, .int .i64 1]) ∧ Below w.heap.size w w' := step_any 1 w hT
theorem step_W (w : World) (hT : Tabs w) : Calls Tryd.prog 19 #[.int .i64 2] w fun e w' => e = .returned (.agg #[.int .i64 (-1), .int .i64 0]) ∧ Below w.heap.size w w' := step_any 2 w hT
theorem step_S (w : World) (hT : Tabs w) : Calls Tryd.prog 19 #[.int .i64 3] w fun e w' => e = .returned (.agg #[.int .i64 0, .int .i64 (-1)]) ∧ Below w.heap.size w w' := step_any 3 w hT

/-- Where one stands behind so many steps. -/
def offX (x : Int) : Nat → Int
  | 0 => 0
  | k + 1 => offX x k + stepX ((x + k) % 4)
def offY (x : Int) : Nat → Int
  | 0 => 0
  | k + 1 => offY x k + stepY ((x + k) % 4)

/-- The loop's relation: the two points lie in the call's own blocks. -/
def StepsRel (w wr : World) (x qx qy : Int) (i : Value) : Prop :=
  ∃ (k : Nat) (ax ay : Int), k ≤ 4 ∧ i = .int .i64 k ∧ ax = qx + offX x k ∧ ay = qy + offY x k ∧ Below w.heap.size w wr ∧ w.heap.size + 1 + 1 < wr.heap.size ∧
    wr.cell? ⟨w.heap.size + 1, 0, none⟩ = some (.int .i64 qx) ∧ wr.cell? ⟨w.heap.size + 1, 1, none⟩ = some (.int .i64 qy) ∧
    wr.cell? ⟨w.heap.size + 1 + 1, 0, none⟩ = some (.int .i64 ax) ∧ wr.cell? ⟨w.heap.size + 1 + 1, 1, none⟩ = some (.int .i64 ay) ∧
    wr.frozen? ⟨w.heap.size + 1 + 1, 0, none⟩ = false ∧ wr.frozen? ⟨w.heap.size + 1 + 1, 1, none⟩ = false
theorem bfrozen {W W1 : World} (hb : Below W.heap.size W W1) : ∀ b o, b < W.heap.size → W1.frozen? ⟨b, o, none⟩ = W.frozen? ⟨b, o, none⟩ :=
  fun b o h => hb.frozen (p := ⟨b, o, none⟩) h

set_option maxRecDepth 100000 in
set_option maxHeartbeats 1000000 in
theorem steps_0 (d px py : Int) (w : World) (hT : Tabs w) (hd : 0 < d) (hx : d % 4 = 0) :
    Calls Tryd.prog 7 #[.int .i64 d, .agg #[.int .i64 px, .int .i64 py]] w fun r w' => r = .returned (.bool true) ∧ Below w.heap.size w w' := by
  have hr2 := hT.room
  have HT := Lib.hid hT
  have bx := tmod1000 px
  have b := tmod1000 py
  clear hT
  go_enter Tryd.func7, Tryd.ntmps7
  go_wp2
  generalize px.tmod 1000 = qx at *
  generalize py.tmod 1000 = qy at *
  rw [hx]
  clear hx hd
  obtain ⟨bx0, bx1⟩ := bx
  obtain ⟨b0, b1⟩ := b
  go_loopw [25] (fun i wr => StepsRel w wr 0 qx qy i) (fun i _ => 4 - (intOf i).toNat)
  case atStart => exact ⟨0, qx, qy, by omega, rfl, (Int.add_zero _).symm, (Int.add_zero _).symm, (((Below.refl _ _).alloc (Nat.le_refl _) _).alloc (by simp) _).alloc (by simp; omega) _, by simp, by go_simp, by go_simp, by go_simp, by go_simp, by go_simp, by go_simp⟩
  case round =>
      obtain ⟨k, ax, ay, hk, rfl, hax, hay, hb, hs, c0, c1, c2, c3, f2, f3⟩ := hrel
      have HB := Lib.hid hb
      have T := Lib.hid (HT.out.below hb hr2)
      have hwr := T.out.room
      have ys : w.heap.size + 1 < wr.heap.size := by omega
      have T2 : ∀ w1, Below wr.heap.size wr w1 → Tabs w1 := fun w1 h => T.out.below h hwr
      clear hb
      by_cases h0 : k = 0
      · subst h0
        have K := Lib.hid (btw_E (ax := ax) (ay := ay) (bx := ax + 1) (b := ay) (by omega) (by omega))
        have K' := Lib.hid (btw_E (ax := ax) (ay := ay) (bx := ax + 1) (b := ay) (by omega) (by omega))
        have kx : -1003 ≤ ax ∧ ax ≤ 1003 := by rw [hax]; simp only [show offX 0 0 = 0 from rfl]; omega
        have ky : -1003 ≤ ay ∧ ay ≤ 1003 := by rw [hay]; simp only [show offY 0 0 = 0 from rfl]; omega
        obtain ⟨kx0, kx1⟩ := kx
        obtain ⟨ky0, ky1⟩ := ky
        have AX := Lib.hid hax
        have AY := Lib.hid hay
        clear hax hay
        go_wp2_with (first
          | (go_at_call 10; refine (left_good _ _ _ (by omega) (by omega)).mono ?_; rintro e w' ⟨rfl, rfl⟩)
          | (go_at_call 19; with_reducible refine (step_E _ T.out).mono ?_; rintro e w1 ⟨rfl, hb1⟩; obtain ⟨hc1, hs1⟩ := bcell hb1; have hf1 := bfrozen hb1; have Q1 := Lib.hid hb1; have z1 : w.heap.size + 1 + 1 < w1.heap.size := (by omega); have y1 : w.heap.size + 1 < w1.heap.size := (by omega); have k1 : w.heap.size < w1.heap.size := (by omega); clear hb1)
          | (go_at_call 19; with_reducible refine (step_W _ (T2 _ (Q1.out.alloc hs1 _))).mono ?_; rintro e w2 ⟨rfl, hb2⟩; obtain ⟨hc2, hs2⟩ := bcell hb2; have hf2 := bfrozen hb2; have Q2 := Lib.hid hb2; (try simp at hs2); have x2 : w1.heap.size < w2.heap.size := (by omega); have z2 : w.heap.size + 1 + 1 < w2.heap.size := (by omega); have y2 : w.heap.size + 1 < w2.heap.size := (by omega); have k2 : w.heap.size < w2.heap.size := (by omega); clear hb2)
          | (go_at_call 18; (first | with_reducible refine (between_k _ _ _ _ 0 0 true _ K.out rfl rfl).mono ?_ | with_reducible refine (between_k _ _ _ _ 0 0 true _ K'.out rfl rfl).mono ?_); rintro e w3 ⟨rfl, hb3⟩; obtain ⟨hc3, hs3⟩ := bcell hb3; have hf3 := bfrozen hb3; have Q3 := Lib.hid hb3; (try simp at hs3); have v3 : w2.heap.size < w3.heap.size := (by omega); have u3 : w2.heap.size + 1 < w3.heap.size := (by omega); have x3 : w1.heap.size < w3.heap.size := (by omega); have z3 : w.heap.size + 1 + 1 < w3.heap.size := (by omega); have y3 : w.heap.size + 1 < w3.heap.size := (by omega); clear hb3))
        go_roundw
        case rel => exact ⟨1, ax + 1, ay, by omega, by go_num, by have := AX.out; rw [show offX 0 0 = 0 from rfl] at this; rw [show offX 0 1 = 1 from rfl]; omega, by have := AY.out; rw [show offY 0 0 = 0 from rfl] at this; rw [show offY 0 1 = 0 from rfl]; omega,
          (((((((HB.out.trans (Q1.out.mono (by omega))).alloc (by omega) _).trans (Q2.out.mono (by simp; omega))).alloc (by omega) _).alloc (by simp; omega) _).trans (Q3.out.mono (by simp; omega))).setCell (by simp; omega) _).setCell (by simp; omega) _, by simp; omega, by go_simp, by go_simp, by go_simp, by go_simp, by go_simp, by go_simp⟩
        case measure => simp [intOf]
      by_cases h1 : k = 1
      · subst h1
        have K := Lib.hid (btw_N (ax := ax) (ay := ay) (bx := ax) (b := ay + 1) (by omega) (by omega))
        have K' := Lib.hid (btw_N (ax := ax) (ay := ay) (bx := ax) (b := ay + 1) (by omega) (by omega))
        have kx : -1003 ≤ ax ∧ ax ≤ 1003 := by rw [hax]; simp only [show offX 0 1 = 1 from rfl]; omega
        have ky : -1003 ≤ ay ∧ ay ≤ 1003 := by rw [hay]; simp only [show offY 0 1 = 0 from rfl]; omega
        obtain ⟨kx0, kx1⟩ := kx
        obtain ⟨ky0, ky1⟩ := ky
        have AX := Lib.hid hax
        have AY := Lib.hid hay
        clear hax hay
        go_wp2_with (first
          | (go_at_call 10; refine (left_good _ _ _ (by omega) (by omega)).mono ?_; rintro e w' ⟨rfl, rfl⟩)
          | (go_at_call 19; with_reducible refine (step_N _ T.out).mono ?_; rintro e w1 ⟨rfl, hb1⟩; obtain ⟨hc1, hs1⟩ := bcell hb1; have hf1 := bfrozen hb1; have Q1 := Lib.hid hb1; have z1 : w.heap.size + 1 + 1 < w1.heap.size := (by omega); have y1 : w.heap.size + 1 < w1.heap.size := (by omega); have k1 : w.heap.size < w1.heap.size := (by omega); clear hb1)
          | (go_at_call 19; with_reducible refine (step_S _ (T2 _ (Q1.out.alloc hs1 _))).mono ?_; rintro e w2 ⟨rfl, hb2⟩; obtain ⟨hc2, hs2⟩ := bcell hb2; have hf2 := bfrozen hb2; have Q2 := Lib.hid hb2; (try simp at hs2); have x2 : w1.heap.size < w2.heap.size := (by omega); have z2 : w.heap.size + 1 + 1 < w2.heap.size := (by omega); have y2 : w.heap.size + 1 < w2.heap.size := (by omega); have k2 : w.heap.size < w2.heap.size := (by omega); clear hb2)
          | (go_at_call 18; (first | with_reducible refine (between_k _ _ _ _ 1 1 true _ K.out rfl rfl).mono ?_ | with_reducible refine (between_k _ _ _ _ 1 1 true _ K'.out rfl rfl).mono ?_); rintro e w3 ⟨rfl, hb3⟩; obtain ⟨hc3, hs3⟩ := bcell hb3; have hf3 := bfrozen hb3; have Q3 := Lib.hid hb3; (try simp at hs3); have v3 : w2.heap.size < w3.heap.size := (by omega); have u3 : w2.heap.size + 1 < w3.heap.size := (by omega); have x3 : w1.heap.size < w3.heap.size := (by omega); have z3 : w.heap.size + 1 + 1 < w3.heap.size := (by omega); have y3 : w.heap.size + 1 < w3.heap.size := (by omega); clear hb3))
        go_roundw
        case rel => exact ⟨2, ax, ay + 1, by omega, by go_num, by have := AX.out; rw [show offX 0 1 = 1 from rfl] at this; rw [show offX 0 2 = 1 from rfl]; omega, by have := AY.out; rw [show offY 0 1 = 0 from rfl] at this; rw [show offY 0 2 = 1 from rfl]; omega,
          (((((((HB.out.trans (Q1.out.mono (by omega))).alloc (by omega) _).trans (Q2.out.mono (by simp; omega))).alloc (by omega) _).alloc (by simp; omega) _).trans (Q3.out.mono (by simp; omega))).setCell (by simp; omega) _).setCell (by simp; omega) _, by simp; omega, by go_simp, by go_simp, by go_simp, by go_simp, by go_simp, by go_simp⟩
        case measure => simp [intOf]
      by_cases h2 : k = 2
      · subst h2
        have K := Lib.hid (btw_W (ax := ax) (ay := ay) (bx := ax - 1) (b := ay) (by omega) (by omega))
        have K' := Lib.hid (btw_W (ax := ax) (ay := ay) (bx := ax + -1) (b := ay) (by omega) (by omega))
        have kx : -1003 ≤ ax ∧ ax ≤ 1003 := by rw [hax]; simp only [show offX 0 2 = 1 from rfl]; omega
        have ky : -1003 ≤ ay ∧ ay ≤ 1003 := by rw [hay]; simp only [show offY 0 2 = 1 from rfl]; omega
        obtain ⟨kx0, kx1⟩ := kx
        obtain ⟨ky0, ky1⟩ := ky
        have AX := Lib.hid hax
        have AY := Lib.hid hay
        clear hax hay
        go_wp2_with (first
          | (go_at_call 10; refine (left_good _ _ _ (by omega) (by omega)).mono ?_; rintro e w' ⟨rfl, rfl⟩)
          | (go_at_call 19; with_reducible refine (step_W _ T.out).mono ?_; rintro e w1 ⟨rfl, hb1⟩; obtain ⟨hc1, hs1⟩ := bcell hb1; have hf1 := bfrozen hb1; have Q1 := Lib.hid hb1; have z1 : w.heap.size + 1 + 1 < w1.heap.size := (by omega); have y1 : w.heap.size + 1 < w1.heap.size := (by omega); have k1 : w.heap.size < w1.heap.size := (by omega); clear hb1)
          | (go_at_call 19; with_reducible refine (step_E _ (T2 _ (Q1.out.alloc hs1 _))).mono ?_; rintro e w2 ⟨rfl, hb2⟩; obtain ⟨hc2, hs2⟩ := bcell hb2; have hf2 := bfrozen hb2; have Q2 := Lib.hid hb2; (try simp at hs2); have x2 : w1.heap.size < w2.heap.size := (by omega); have z2 : w.heap.size + 1 + 1 < w2.heap.size := (by omega); have y2 : w.heap.size + 1 < w2.heap.size := (by omega); have k2 : w.heap.size < w2.heap.size := (by omega); clear hb2)
          | (go_at_call 18; (first | with_reducible refine (between_k _ _ _ _ 2 2 true _ K.out rfl rfl).mono ?_ | with_reducible refine (between_k _ _ _ _ 2 2 true _ K'.out rfl rfl).mono ?_); rintro e w3 ⟨rfl, hb3⟩; obtain ⟨hc3, hs3⟩ := bcell hb3; have hf3 := bfrozen hb3; have Q3 := Lib.hid hb3; (try simp at hs3); have v3 : w2.heap.size < w3.heap.size := (by omega); have u3 : w2.heap.size + 1 < w3.heap.size := (by omega); have x3 : w1.heap.size < w3.heap.size := (by omega); have z3 : w.heap.size + 1 + 1 < w3.heap.size := (by omega); have y3 : w.heap.size + 1 < w3.heap.size := (by omega); clear hb3))
        go_roundw
        case rel => exact ⟨3, ax + -1, ay, by omega, by go_num, by have := AX.out; rw [show offX 0 2 = 1 from rfl] at this; rw [show offX 0 3 = 0 from rfl]; omega, by have := AY.out; rw [show offY 0 2 = 1 from rfl] at this; rw [show offY 0 3 = 1 from rfl]; omega,
          (((((((HB.out.trans (Q1.out.mono (by omega))).alloc (by omega) _).trans (Q2.out.mono (by simp; omega))).alloc (by omega) _).alloc (by simp; omega) _).trans (Q3.out.mono (by simp; omega))).setCell (by simp; omega) _).setCell (by simp; omega) _, by simp; omega, by go_simp, by go_simp, by go_simp, by go_simp, by go_simp, by go_simp⟩
        case measure => simp [intOf]
      by_cases h3 : k = 3
      · subst h3
        have K := Lib.hid (btw_S (ax := ax) (ay := ay) (bx := ax) (b := ay - 1) (by omega) (by omega))
        have K' := Lib.hid (btw_S (ax := ax) (ay := ay) (bx := ax) (b := ay + -1) (by omega) (by omega))
        have kx : -1003 ≤ ax ∧ ax ≤ 1003 := by rw [hax]; simp only [show offX 0 3 = 0 from rfl]; omega
        have ky : -1003 ≤ ay ∧ ay ≤ 1003 := by rw [hay]; simp only [show offY 0 3 = 1 from rfl]; omega
        obtain ⟨kx0, kx1⟩ := kx
        obtain ⟨ky0, ky1⟩ := ky
        have AX := Lib.hid hax
        have AY := Lib.hid hay
        clear hax hay
        go_wp2_with (first
          | (go_at_call 10; refine (left_good _ _ _ (by omega) (by omega)).mono ?_; rintro e w' ⟨rfl, rfl⟩)
          | (go_at_call 19; with_reducible refine (step_S _ T.out).mono ?_; rintro e w1 ⟨rfl, hb1⟩; obtain ⟨hc1, hs1⟩ := bcell hb1; have hf1 := bfrozen hb1; have Q1 := Lib.hid hb1; have z1 : w.heap.size + 1 + 1 < w1.heap.size := (by omega); have y1 : w.heap.size + 1 < w1.heap.size := (by omega); have k1 : w.heap.size < w1.heap.size := (by omega); clear hb1)
          | (go_at_call 19; with_reducible refine (step_N _ (T2 _ (Q1.out.alloc hs1 _))).mono ?_; rintro e w2 ⟨rfl, hb2⟩; obtain ⟨hc2, hs2⟩ := bcell hb2; have hf2 := bfrozen hb2; have Q2 := Lib.hid hb2; (try simp at hs2); have x2 : w1.heap.size < w2.heap.size := (by omega); have z2 : w.heap.size + 1 + 1 < w2.heap.size := (by omega); have y2 : w.heap.size + 1 < w2.heap.size := (by omega); have k2 : w.heap.size < w2.heap.size := (by omega); clear hb2)
          | (go_at_call 18; (first | with_reducible refine (between_k _ _ _ _ 3 3 true _ K.out rfl rfl).mono ?_ | with_reducible refine (between_k _ _ _ _ 3 3 true _ K'.out rfl rfl).mono ?_); rintro e w3 ⟨rfl, hb3⟩; obtain ⟨hc3, hs3⟩ := bcell hb3; have hf3 := bfrozen hb3; have Q3 := Lib.hid hb3; (try simp at hs3); have v3 : w2.heap.size < w3.heap.size := (by omega); have u3 : w2.heap.size + 1 < w3.heap.size := (by omega); have x3 : w1.heap.size < w3.heap.size := (by omega); have z3 : w.heap.size + 1 + 1 < w3.heap.size := (by omega); have y3 : w.heap.size + 1 < w3.heap.size := (by omega); clear hb3))
        go_roundw
        case rel => exact ⟨4, ax, ay + -1, by omega, by go_num, by have := AX.out; rw [show offX 0 3 = 0 from rfl] at this; rw [show offX 0 4 = 0 from rfl]; omega, by have := AY.out; rw [show offY 0 3 = 1 from rfl] at this; rw [show offY 0 4 = 0 from rfl]; omega,
          (((((((HB.out.trans (Q1.out.mono (by omega))).alloc (by omega) _).trans (Q2.out.mono (by simp; omega))).alloc (by omega) _).alloc (by simp; omega) _).trans (Q3.out.mono (by simp; omega))).setCell (by simp; omega) _).setCell (by simp; omega) _, by simp; omega, by go_simp, by go_simp, by go_simp, by go_simp, by go_simp, by go_simp⟩
        case measure => simp [intOf]
      obtain rfl : k = 4 := by omega
      have ex : ax = qx := by rw [hax]; simp only [show offX 0 4 = 0 from rfl]; omega
      have ey : ay = qy := by rw [hay]; simp only [show offY 0 4 = 0 from rfl]; omega
      subst ex ey
      clear hax hay
      go_wp2_with (go_at_call 14; refine (wakes_any _ T.out).mono ?_; rintro e w2 ⟨rfl, hb2⟩; obtain ⟨hc2, hs2⟩ := bcell hb2; have y2 : w.heap.size + 1 < wr.heap.size := (by omega); have Q := Lib.hid (HB.out.trans (hb2.mono (by omega))); clear hb2)
      go_ret
      exact ⟨rfl, Q.out⟩

set_option maxRecDepth 100000 in
set_option maxHeartbeats 1000000 in
theorem steps_1 (d px py : Int) (w : World) (hT : Tabs w) (hd : 0 < d) (hx : d % 4 = 1) :
    Calls Tryd.prog 7 #[.int .i64 d, .agg #[.int .i64 px, .int .i64 py]] w fun r w' => r = .returned (.bool true) ∧ Below w.heap.size w w' := by
  have hr2 := hT.room
  have HT := Lib.hid hT
  have bx := tmod1000 px
  have b := tmod1000 py
  clear hT
  go_enter Tryd.func7, Tryd.ntmps7
  go_wp2
  generalize px.tmod 1000 = qx at *
  generalize py.tmod 1000 = qy at *
  rw [hx]
  clear hx hd
  obtain ⟨bx0, bx1⟩ := bx
  obtain ⟨b0, b1⟩ := b
  go_loopw [25] (fun i wr => StepsRel w wr 1 qx qy i) (fun i _ => 4 - (intOf i).toNat)
  case atStart => exact ⟨0, qx, qy, by omega, rfl, (Int.add_zero _).symm, (Int.add_zero _).symm, (((Below.refl _ _).alloc (Nat.le_refl _) _).alloc (by simp) _).alloc (by simp; omega) _, by simp, by go_simp, by go_simp, by go_simp, by go_simp, by go_simp, by go_simp⟩
  case round =>
      obtain ⟨k, ax, ay, hk, rfl, hax, hay, hb, hs, c0, c1, c2, c3, f2, f3⟩ := hrel
      have HB := Lib.hid hb
      have T := Lib.hid (HT.out.below hb hr2)
      have hwr := T.out.room
      have ys : w.heap.size + 1 < wr.heap.size := by omega
      have T2 : ∀ w1, Below wr.heap.size wr w1 → Tabs w1 := fun w1 h => T.out.below h hwr
      clear hb
      by_cases h0 : k = 0
      · subst h0
        have K := Lib.hid (btw_N (ax := ax) (ay := ay) (bx := ax) (b := ay + 1) (by omega) (by omega))
        have K' := Lib.hid (btw_N (ax := ax) (ay := ay) (bx := ax) (b := ay + 1) (by omega) (by omega))
        have kx : -1003 ≤ ax ∧ ax ≤ 1003 := by rw [hax]; simp only [show offX 1 0 = 0 from rfl]; omega
        have ky : -1003 ≤ ay ∧ ay ≤ 1003 := by rw [hay]; simp only [show offY 1 0 = 0 from rfl]; omega
        obtain ⟨kx0, kx1⟩ := kx
        obtain ⟨ky0, ky1⟩ := ky
        have AX := Lib.hid hax
        have AY := Lib.hid hay
        clear hax hay
        go_wp2_with (first
          | (go_at_call 10; refine (left_good _ _ _ (by omega) (by omega)).mono ?_; rintro e w' ⟨rfl, rfl⟩)
          | (go_at_call 19; with_reducible refine (step_N _ T.out).mono ?_; rintro e w1 ⟨rfl, hb1⟩; obtain ⟨hc1, hs1⟩ := bcell hb1; have hf1 := bfrozen hb1; have Q1 := Lib.hid hb1; have z1 : w.heap.size + 1 + 1 < w1.heap.size := (by omega); have y1 : w.heap.size + 1 < w1.heap.size := (by omega); have k1 : w.heap.size < w1.heap.size := (by omega); clear hb1)
          | (go_at_call 19; with_reducible refine (step_S _ (T2 _ (Q1.out.alloc hs1 _))).mono ?_; rintro e w2 ⟨rfl, hb2⟩; obtain ⟨hc2, hs2⟩ := bcell hb2; have hf2 := bfrozen hb2; have Q2 := Lib.hid hb2; (try simp at hs2); have x2 : w1.heap.size < w2.heap.size := (by omega); have z2 : w.heap.size + 1 + 1 < w2.heap.size := (by omega); have y2 : w.heap.size + 1 < w2.heap.size := (by omega); have k2 : w.heap.size < w2.heap.size := (by omega); clear hb2)
          | (go_at_call 18; (first | with_reducible refine (between_k _ _ _ _ 1 1 true _ K.out rfl rfl).mono ?_ | with_reducible refine (between_k _ _ _ _ 1 1 true _ K'.out rfl rfl).mono ?_); rintro e w3 ⟨rfl, hb3⟩; obtain ⟨hc3, hs3⟩ := bcell hb3; have hf3 := bfrozen hb3; have Q3 := Lib.hid hb3; (try simp at hs3); have v3 : w2.heap.size < w3.heap.size := (by omega); have u3 : w2.heap.size + 1 < w3.heap.size := (by omega); have x3 : w1.heap.size < w3.heap.size := (by omega); have z3 : w.heap.size + 1 + 1 < w3.heap.size := (by omega); have y3 : w.heap.size + 1 < w3.heap.size := (by omega); clear hb3))
        go_roundw
        case rel => exact ⟨1, ax, ay + 1, by omega, by go_num, by have := AX.out; rw [show offX 1 0 = 0 from rfl] at this; rw [show offX 1 1 = 0 from rfl]; omega, by have := AY.out; rw [show offY 1 0 = 0 from rfl] at this; rw [show offY 1 1 = 1 from rfl]; omega,
          (((((((HB.out.trans (Q1.out.mono (by omega))).alloc (by omega) _).trans (Q2.out.mono (by simp; omega))).alloc (by omega) _).alloc (by simp; omega) _).trans (Q3.out.mono (by simp; omega))).setCell (by simp; omega) _).setCell (by simp; omega) _, by simp; omega, by go_simp, by go_simp, by go_simp, by go_simp, by go_simp, by go_simp⟩
        case measure => simp [intOf]
      by_cases h1 : k = 1
      · subst h1
        have K := Lib.hid (btw_W (ax := ax) (ay := ay) (bx := ax - 1) (b := ay) (by omega) (by omega))
        have K' := Lib.hid (btw_W (ax := ax) (ay := ay) (bx := ax + -1) (b := ay) (by omega) (by omega))
        have kx : -1003 ≤ ax ∧ ax ≤ 1003 := by rw [hax]; simp only [show offX 1 1 = 0 from rfl]; omega
        have ky : -1003 ≤ ay ∧ ay ≤ 1003 := by rw [hay]; simp only [show offY 1 1 = 1 from rfl]; omega
        obtain ⟨kx0, kx1⟩ := kx
        obtain ⟨ky0, ky1⟩ := ky
        have AX := Lib.hid hax
        have AY := Lib.hid hay
        clear hax hay
        go_wp2_with (first
          | (go_at_call 10; refine (left_good _ _ _ (by omega) (by omega)).mono ?_; rintro e w' ⟨rfl, rfl⟩)
          | (go_at_call 19; with_reducible refine (step_W _ T.out).mono ?_; rintro e w1 ⟨rfl, hb1⟩; obtain ⟨hc1, hs1⟩ := bcell hb1; have hf1 := bfrozen hb1; have Q1 := Lib.hid hb1; have z1 : w.heap.size + 1 + 1 < w1.heap.size := (by omega); have y1 : w.heap.size + 1 < w1.heap.size := (by omega); have k1 : w.heap.size < w1.heap.size := (by omega); clear hb1)
          | (go_at_call 19; with_reducible refine (step_E _ (T2 _ (Q1.out.alloc hs1 _))).mono ?_; rintro e w2 ⟨rfl, hb2⟩; obtain ⟨hc2, hs2⟩ := bcell hb2; have hf2 := bfrozen hb2; have Q2 := Lib.hid hb2; (try simp at hs2); have x2 : w1.heap.size < w2.heap.size := (by omega); have z2 : w.heap.size + 1 + 1 < w2.heap.size := (by omega); have y2 : w.heap.size + 1 < w2.heap.size := (by omega); have k2 : w.heap.size < w2.heap.size := (by omega); clear hb2)
          | (go_at_call 18; (first | with_reducible refine (between_k _ _ _ _ 2 2 true _ K.out rfl rfl).mono ?_ | with_reducible refine (between_k _ _ _ _ 2 2 true _ K'.out rfl rfl).mono ?_); rintro e w3 ⟨rfl, hb3⟩; obtain ⟨hc3, hs3⟩ := bcell hb3; have hf3 := bfrozen hb3; have Q3 := Lib.hid hb3; (try simp at hs3); have v3 : w2.heap.size < w3.heap.size := (by omega); have u3 : w2.heap.size + 1 < w3.heap.size := (by omega); have x3 : w1.heap.size < w3.heap.size := (by omega); have z3 : w.heap.size + 1 + 1 < w3.heap.size := (by omega); have y3 : w.heap.size + 1 < w3.heap.size := (by omega); clear hb3))
        go_roundw
        case rel => exact ⟨2, ax + -1, ay, by omega, by go_num, by have := AX.out; rw [show offX 1 1 = 0 from rfl] at this; rw [show offX 1 2 = -1 from rfl]; omega, by have := AY.out; rw [show offY 1 1 = 1 from rfl] at this; rw [show offY 1 2 = 1 from rfl]; omega,
          (((((((HB.out.trans (Q1.out.mono (by omega))).alloc (by omega) _).trans (Q2.out.mono (by simp; omega))).alloc (by omega) _).alloc (by simp; omega) _).trans (Q3.out.mono (by simp; omega))).setCell (by simp; omega) _).setCell (by simp; omega) _, by simp; omega, by go_simp, by go_simp, by go_simp, by go_simp, by go_simp, by go_simp⟩
        case measure => simp [intOf]
      by_cases h2 : k = 2
      · subst h2
        have K := Lib.hid (btw_S (ax := ax) (ay := ay) (bx := ax) (b := ay - 1) (by omega) (by omega))
        have K' := Lib.hid (btw_S (ax := ax) (ay := ay) (bx := ax) (b := ay + -1) (by omega) (by omega))
        have kx : -1003 ≤ ax ∧ ax ≤ 1003 := by rw [hax]; simp only [show offX 1 2 = -1 from rfl]; omega
        have ky : -1003 ≤ ay ∧ ay ≤ 1003 := by rw [hay]; simp only [show offY 1 2 = 1 from rfl]; omega
        obtain ⟨kx0, kx1⟩ := kx
        obtain ⟨ky0, ky1⟩ := ky
        have AX := Lib.hid hax
        have AY := Lib.hid hay
        clear hax hay
        go_wp2_with (first
          | (go_at_call 10; refine (left_good _ _ _ (by omega) (by omega)).mono ?_; rintro e w' ⟨rfl, rfl⟩)
          | (go_at_call 19; with_reducible refine (step_S _ T.out).mono ?_; rintro e w1 ⟨rfl, hb1⟩; obtain ⟨hc1, hs1⟩ := bcell hb1; have hf1 := bfrozen hb1; have Q1 := Lib.hid hb1; have z1 : w.heap.size + 1 + 1 < w1.heap.size := (by omega); have y1 : w.heap.size + 1 < w1.heap.size := (by omega); have k1 : w.heap.size < w1.heap.size := (by omega); clear hb1)
          | (go_at_call 19; with_reducible refine (step_N _ (T2 _ (Q1.out.alloc hs1 _))).mono ?_; rintro e w2 ⟨rfl, hb2⟩; obtain ⟨hc2, hs2⟩ := bcell hb2; have hf2 := bfrozen hb2; have Q2 := Lib.hid hb2; (try simp at hs2); have x2 : w1.heap.size < w2.heap.size := (by omega); have z2 : w.heap.size + 1 + 1 < w2.heap.size := (by omega); have y2 : w.heap.size + 1 < w2.heap.size := (by omega); have k2 : w.heap.size < w2.heap.size := (by omega); clear hb2)
          | (go_at_call 18; (first | with_reducible refine (between_k _ _ _ _ 3 3 true _ K.out rfl rfl).mono ?_ | with_reducible refine (between_k _ _ _ _ 3 3 true _ K'.out rfl rfl).mono ?_); rintro e w3 ⟨rfl, hb3⟩; obtain ⟨hc3, hs3⟩ := bcell hb3; have hf3 := bfrozen hb3; have Q3 := Lib.hid hb3; (try simp at hs3); have v3 : w2.heap.size < w3.heap.size := (by omega); have u3 : w2.heap.size + 1 < w3.heap.size := (by omega); have x3 : w1.heap.size < w3.heap.size := (by omega); have z3 : w.heap.size + 1 + 1 < w3.heap.size := (by omega); have y3 : w.heap.size + 1 < w3.heap.size := (by omega); clear hb3))
        go_roundw
        case rel => exact ⟨3, ax, ay + -1, by omega, by go_num, by have := AX.out; rw [show offX 1 2 = -1 from rfl] at this; rw [show offX 1 3 = -1 from rfl]; omega, by have := AY.out; rw [show offY 1 2 = 1 from rfl] at this; rw [show offY 1 3 = 0 from rfl]; omega,
          (((((((HB.out.trans (Q1.out.mono (by omega))).alloc (by omega) _).trans (Q2.out.mono (by simp; omega))).alloc (by omega) _).alloc (by simp; omega) _).trans (Q3.out.mono (by simp; omega))).setCell (by simp; omega) _).setCell (by simp; omega) _, by simp; omega, by go_simp, by go_simp, by go_simp, by go_simp, by go_simp, by go_simp⟩
        case measure => simp [intOf]
      by_cases h3 : k = 3
      · subst h3
        have K := Lib.hid (btw_E (ax := ax) (ay := ay) (bx := ax + 1) (b := ay) (by omega) (by omega))
        have K' := Lib.hid (btw_E (ax := ax) (ay := ay) (bx := ax + 1) (b := ay) (by omega) (by omega))
        have kx : -1003 ≤ ax ∧ ax ≤ 1003 := by rw [hax]; simp only [show offX 1 3 = -1 from rfl]; omega
        have ky : -1003 ≤ ay ∧ ay ≤ 1003 := by rw [hay]; simp only [show offY 1 3 = 0 from rfl]; omega
        obtain ⟨kx0, kx1⟩ := kx
        obtain ⟨ky0, ky1⟩ := ky
        have AX := Lib.hid hax
        have AY := Lib.hid hay
        clear hax hay
        go_wp2_with (first
          | (go_at_call 10; refine (left_good _ _ _ (by omega) (by omega)).mono ?_; rintro e w' ⟨rfl, rfl⟩)
          | (go_at_call 19; with_reducible refine (step_E _ T.out).mono ?_; rintro e w1 ⟨rfl, hb1⟩; obtain ⟨hc1, hs1⟩ := bcell hb1; have hf1 := bfrozen hb1; have Q1 := Lib.hid hb1; have z1 : w.heap.size + 1 + 1 < w1.heap.size := (by omega); have y1 : w.heap.size + 1 < w1.heap.size := (by omega); have k1 : w.heap.size < w1.heap.size := (by omega); clear hb1)
          | (go_at_call 19; with_reducible refine (step_W _ (T2 _ (Q1.out.alloc hs1 _))).mono ?_; rintro e w2 ⟨rfl, hb2⟩; obtain ⟨hc2, hs2⟩ := bcell hb2; have hf2 := bfrozen hb2; have Q2 := Lib.hid hb2; (try simp at hs2); have x2 : w1.heap.size < w2.heap.size := (by omega); have z2 : w.heap.size + 1 + 1 < w2.heap.size := (by omega); have y2 : w.heap.size + 1 < w2.heap.size := (by omega); have k2 : w.heap.size < w2.heap.size := (by omega); clear hb2)
          | (go_at_call 18; (first | with_reducible refine (between_k _ _ _ _ 0 0 true _ K.out rfl rfl).mono ?_ | with_reducible refine (between_k _ _ _ _ 0 0 true _ K'.out rfl rfl).mono ?_); rintro e w3 ⟨rfl, hb3⟩; obtain ⟨hc3, hs3⟩ := bcell hb3; have hf3 := bfrozen hb3; have Q3 := Lib.hid hb3; (try simp at hs3); have v3 : w2.heap.size < w3.heap.size := (by omega); have u3 : w2.heap.size + 1 < w3.heap.size := (by omega); have x3 : w1.heap.size < w3.heap.size := (by omega); have z3 : w.heap.size + 1 + 1 < w3.heap.size := (by omega); have y3 : w.heap.size + 1 < w3.heap.size := (by omega); clear hb3))
        go_roundw
        case rel => exact ⟨4, ax + 1, ay, by omega, by go_num, by have := AX.out; rw [show offX 1 3 = -1 from rfl] at this; rw [show offX 1 4 = 0 from rfl]; omega, by have := AY.out; rw [show offY 1 3 = 0 from rfl] at this; rw [show offY 1 4 = 0 from rfl]; omega,
          (((((((HB.out.trans (Q1.out.mono (by omega))).alloc (by omega) _).trans (Q2.out.mono (by simp; omega))).alloc (by omega) _).alloc (by simp; omega) _).trans (Q3.out.mono (by simp; omega))).setCell (by simp; omega) _).setCell (by simp; omega) _, by simp; omega, by go_simp, by go_simp, by go_simp, by go_simp, by go_simp, by go_simp⟩
        case measure => simp [intOf]
      obtain rfl : k = 4 := by omega
      have ex : ax = qx := by rw [hax]; simp only [show offX 1 4 = 0 from rfl]; omega
      have ey : ay = qy := by rw [hay]; simp only [show offY 1 4 = 0 from rfl]; omega
      subst ex ey
      clear hax hay
      go_wp2_with (go_at_call 14; refine (wakes_any _ T.out).mono ?_; rintro e w2 ⟨rfl, hb2⟩; obtain ⟨hc2, hs2⟩ := bcell hb2; have y2 : w.heap.size + 1 < wr.heap.size := (by omega); have Q := Lib.hid (HB.out.trans (hb2.mono (by omega))); clear hb2)
      go_ret
      exact ⟨rfl, Q.out⟩

set_option maxRecDepth 100000 in
set_option maxHeartbeats 1000000 in
theorem steps_2 (d px py : Int) (w : World) (hT : Tabs w) (hd : 0 < d) (hx : d % 4 = 2) :
    Calls Tryd.prog 7 #[.int .i64 d, .agg #[.int .i64 px, .int .i64 py]] w fun r w' => r = .returned (.bool true) ∧ Below w.heap.size w w' := by
  have hr2 := hT.room
  have HT := Lib.hid hT
  have bx := tmod1000 px
  have b := tmod1000 py
  clear hT
  go_enter Tryd.func7, Tryd.ntmps7
  go_wp2
  generalize px.tmod 1000 = qx at *
  generalize py.tmod 1000 = qy at *
  rw [hx]
  clear hx hd
  obtain ⟨bx0, bx1⟩ := bx
  obtain ⟨b0, b1⟩ := b
  go_loopw [25] (fun i wr => StepsRel w wr 2 qx qy i) (fun i _ => 4 - (intOf i).toNat)
  case atStart => exact ⟨0, qx, qy, by omega, rfl, (Int.add_zero _).symm, (Int.add_zero _).symm, (((Below.refl _ _).alloc (Nat.le_refl _) _).alloc (by simp) _).alloc (by simp; omega) _, by simp, by go_simp, by go_simp, by go_simp, by go_simp, by go_simp, by go_simp⟩
  case round =>
      obtain ⟨k, ax, ay, hk, rfl, hax, hay, hb, hs, c0, c1, c2, c3, f2, f3⟩ := hrel
      have HB := Lib.hid hb
      have T := Lib.hid (HT.out.below hb hr2)
      have hwr := T.out.room
      have ys : w.heap.size + 1 < wr.heap.size := by omega
      have T2 : ∀ w1, Below wr.heap.size wr w1 → Tabs w1 := fun w1 h => T.out.below h hwr
      clear hb
      by_cases h0 : k = 0
      · subst h0
        have K := Lib.hid (btw_W (ax := ax) (ay := ay) (bx := ax - 1) (b := ay) (by omega) (by omega))
        have K' := Lib.hid (btw_W (ax := ax) (ay := ay) (bx := ax + -1) (b := ay) (by omega) (by omega))
        have kx : -1003 ≤ ax ∧ ax ≤ 1003 := by rw [hax]; simp only [show offX 2 0 = 0 from rfl]; omega
        have ky : -1003 ≤ ay ∧ ay ≤ 1003 := by rw [hay]; simp only [show offY 2 0 = 0 from rfl]; omega
        obtain ⟨kx0, kx1⟩ := kx
        obtain ⟨ky0, ky1⟩ := ky
        have AX := Lib.hid hax
        have AY := Lib.hid hay
        clear hax hay
        go_wp2_with (first
          | (go_at_call 10; refine (left_good _ _ _ (by omega) (by omega)).mono ?_; rintro e w' ⟨rfl, rfl⟩)
          | (go_at_call 19; with_reducible refine (step_W _ T.out).mono ?_; rintro e w1 ⟨rfl, hb1⟩; obtain ⟨hc1, hs1⟩ := bcell hb1; have hf1 := bfrozen hb1; have Q1 := Lib.hid hb1; have z1 : w.heap.size + 1 + 1 < w1.heap.size := (by omega); have y1 : w.heap.size + 1 < w1.heap.size := (by omega); have k1 : w.heap.size < w1.heap.size := (by omega); clear hb1)
          | (go_at_call 19; with_reducible refine (step_E _ (T2 _ (Q1.out.alloc hs1 _))).mono ?_; rintro e w2 ⟨rfl, hb2⟩; obtain ⟨hc2, hs2⟩ := bcell hb2; have hf2 := bfrozen hb2; have Q2 := Lib.hid hb2; (try simp at hs2); have x2 : w1.heap.size < w2.heap.size := (by omega); have z2 : w.heap.size + 1 + 1 < w2.heap.size := (by omega); have y2 : w.heap.size + 1 < w2.heap.size := (by omega); have k2 : w.heap.size < w2.heap.size := (by omega); clear hb2)
          | (go_at_call 18; (first | with_reducible refine (between_k _ _ _ _ 2 2 true _ K.out rfl rfl).mono ?_ | with_reducible refine (between_k _ _ _ _ 2 2 true _ K'.out rfl rfl).mono ?_); rintro e w3 ⟨rfl, hb3⟩; obtain ⟨hc3, hs3⟩ := bcell hb3; have hf3 := bfrozen hb3; have Q3 := Lib.hid hb3; (try simp at hs3); have v3 : w2.heap.size < w3.heap.size := (by omega); have u3 : w2.heap.size + 1 < w3.heap.size := (by omega); have x3 : w1.heap.size < w3.heap.size := (by omega); have z3 : w.heap.size + 1 + 1 < w3.heap.size := (by omega); have y3 : w.heap.size + 1 < w3.heap.size := (by omega); clear hb3))
        go_roundw
        case rel => exact ⟨1, ax + -1, ay, by omega, by go_num, by have := AX.out; rw [show offX 2 0 = 0 from rfl] at this; rw [show offX 2 1 = -1 from rfl]; omega, by have := AY.out; rw [show offY 2 0 = 0 from rfl] at this; rw [show offY 2 1 = 0 from rfl]; omega,
          (((((((HB.out.trans (Q1.out.mono (by omega))).alloc (by omega) _).trans (Q2.out.mono (by simp; omega))).alloc (by omega) _).alloc (by simp; omega) _).trans (Q3.out.mono (by simp; omega))).setCell (by simp; omega) _).setCell (by simp; omega) _, by simp; omega, by go_simp, by go_simp, by go_simp, by go_simp, by go_simp, by go_simp⟩
        case measure => simp [intOf]
      by_cases h1 : k = 1
      · subst h1
        have K := Lib.hid (btw_S (ax := ax) (ay := ay) (bx := ax) (b := ay - 1) (by omega) (by omega))
        have K' := Lib.hid (btw_S (ax := ax) (ay := ay) (bx := ax) (b := ay + -1) (by omega) (by omega))
        have kx : -1003 ≤ ax ∧ ax ≤ 1003 := by rw [hax]; simp only [show offX 2 1 = -1 from rfl]; omega
        have ky : -1003 ≤ ay ∧ ay ≤ 1003 := by rw [hay]; simp only [show offY 2 1 = 0 from rfl]; omega
        obtain ⟨kx0, kx1⟩ := kx
        obtain ⟨ky0, ky1⟩ := ky
        have AX := Lib.hid hax
        have AY := Lib.hid hay
        clear hax hay
        go_wp2_with (first
          | (go_at_call 10; refine (left_good _ _ _ (by omega) (by omega)).mono ?_; rintro e w' ⟨rfl, rfl⟩)
          | (go_at_call 19; with_reducible refine (step_S _ T.out).mono ?_; rintro e w1 ⟨rfl, hb1⟩; obtain ⟨hc1, hs1⟩ := bcell hb1; have hf1 := bfrozen hb1; have Q1 := Lib.hid hb1; have z1 : w.heap.size + 1 + 1 < w1.heap.size := (by omega); have y1 : w.heap.size + 1 < w1.heap.size := (by omega); have k1 : w.heap.size < w1.heap.size := (by omega); clear hb1)
          | (go_at_call 19; with_reducible refine (step_N _ (T2 _ (Q1.out.alloc hs1 _))).mono ?_; rintro e w2 ⟨rfl, hb2⟩; obtain ⟨hc2, hs2⟩ := bcell hb2; have hf2 := bfrozen hb2; have Q2 := Lib.hid hb2; (try simp at hs2); have x2 : w1.heap.size < w2.heap.size := (by omega); have z2 : w.heap.size + 1 + 1 < w2.heap.size := (by omega); have y2 : w.heap.size + 1 < w2.heap.size := (by omega); have k2 : w.heap.size < w2.heap.size := (by omega); clear hb2)
          | (go_at_call 18; (first | with_reducible refine (between_k _ _ _ _ 3 3 true _ K.out rfl rfl).mono ?_ | with_reducible refine (between_k _ _ _ _ 3 3 true _ K'.out rfl rfl).mono ?_); rintro e w3 ⟨rfl, hb3⟩; obtain ⟨hc3, hs3⟩ := bcell hb3; have hf3 := bfrozen hb3; have Q3 := Lib.hid hb3; (try simp at hs3); have v3 : w2.heap.size < w3.heap.size := (by omega); have u3 : w2.heap.size + 1 < w3.heap.size := (by omega); have x3 : w1.heap.size < w3.heap.size := (by omega); have z3 : w.heap.size + 1 + 1 < w3.heap.size := (by omega); have y3 : w.heap.size + 1 < w3.heap.size := (by omega); clear hb3))
        go_roundw
        case rel => exact ⟨2, ax, ay + -1, by omega, by go_num, by have := AX.out; rw [show offX 2 1 = -1 from rfl] at this; rw [show offX 2 2 = -1 from rfl]; omega, by have := AY.out; rw [show offY 2 1 = 0 from rfl] at this; rw [show offY 2 2 = -1 from rfl]; omega,
          (((((((HB.out.trans (Q1.out.mono (by omega))).alloc (by omega) _).trans (Q2.out.mono (by simp; omega))).alloc (by omega) _).alloc (by simp; omega) _).trans (Q3.out.mono (by simp; omega))).setCell (by simp; omega) _).setCell (by simp; omega) _, by simp; omega, by go_simp, by go_simp, by go_simp, by go_simp, by go_simp, by go_simp⟩
        case measure => simp [intOf]
      by_cases h2 : k = 2
      · subst h2
        have K := Lib.hid (btw_E (ax := ax) (ay := ay) (bx := ax + 1) (b := ay) (by omega) (by omega))
        have K' := Lib.hid (btw_E (ax := ax) (ay := ay) (bx := ax + 1) (b := ay) (by omega) (by omega))
        have kx : -1003 ≤ ax ∧ ax ≤ 1003 := by rw [hax]; simp only [show offX 2 2 = -1 from rfl]; omega
        have ky : -1003 ≤ ay ∧ ay ≤ 1003 := by rw [hay]; simp only [show offY 2 2 = -1 from rfl]; omega
        obtain ⟨kx0, kx1⟩ := kx
        obtain ⟨ky0, ky1⟩ := ky
        have AX := Lib.hid hax
        have AY := Lib.hid hay
        clear hax hay
        go_wp2_with (first
          | (go_at_call 10; refine (left_good _ _ _ (by omega) (by omega)).mono ?_; rintro e w' ⟨rfl, rfl⟩)
          | (go_at_call 19; with_reducible refine (step_E _ T.out).mono ?_; rintro e w1 ⟨rfl, hb1⟩; obtain ⟨hc1, hs1⟩ := bcell hb1; have hf1 := bfrozen hb1; have Q1 := Lib.hid hb1; have z1 : w.heap.size + 1 + 1 < w1.heap.size := (by omega); have y1 : w.heap.size + 1 < w1.heap.size := (by omega); have k1 : w.heap.size < w1.heap.size := (by omega); clear hb1)
          | (go_at_call 19; with_reducible refine (step_W _ (T2 _ (Q1.out.alloc hs1 _))).mono ?_; rintro e w2 ⟨rfl, hb2⟩; obtain ⟨hc2, hs2⟩ := bcell hb2; have hf2 := bfrozen hb2; have Q2 := Lib.hid hb2; (try simp at hs2); have x2 : w1.heap.size < w2.heap.size := (by omega); have z2 : w.heap.size + 1 + 1 < w2.heap.size := (by omega); have y2 : w.heap.size + 1 < w2.heap.size := (by omega); have k2 : w.heap.size < w2.heap.size := (by omega); clear hb2)
          | (go_at_call 18; (first | with_reducible refine (between_k _ _ _ _ 0 0 true _ K.out rfl rfl).mono ?_ | with_reducible refine (between_k _ _ _ _ 0 0 true _ K'.out rfl rfl).mono ?_); rintro e w3 ⟨rfl, hb3⟩; obtain ⟨hc3, hs3⟩ := bcell hb3; have hf3 := bfrozen hb3; have Q3 := Lib.hid hb3; (try simp at hs3); have v3 : w2.heap.size < w3.heap.size := (by omega); have u3 : w2.heap.size + 1 < w3.heap.size := (by omega); have x3 : w1.heap.size < w3.heap.size := (by omega); have z3 : w.heap.size + 1 + 1 < w3.heap.size := (by omega); have y3 : w.heap.size + 1 < w3.heap.size := (by omega); clear hb3))
        go_roundw
        case rel => exact ⟨3, ax + 1, ay, by omega, by go_num, by have := AX.out; rw [show offX 2 2 = -1 from rfl] at this; rw [show offX 2 3 = 0 from rfl]; omega, by have := AY.out; rw [show offY 2 2 = -1 from rfl] at this; rw [show offY 2 3 = -1 from rfl]; omega,
          (((((((HB.out.trans (Q1.out.mono (by omega))).alloc (by omega) _).trans (Q2.out.mono (by simp; omega))).alloc (by omega) _).alloc (by simp; omega) _).trans (Q3.out.mono (by simp; omega))).setCell (by simp; omega) _).setCell (by simp; omega) _, by simp; omega, by go_simp, by go_simp, by go_simp, by go_simp, by go_simp, by go_simp⟩
        case measure => simp [intOf]
      by_cases h3 : k = 3
      · subst h3
        have K := Lib.hid (btw_N (ax := ax) (ay := ay) (bx := ax) (b := ay + 1) (by omega) (by omega))
        have K' := Lib.hid (btw_N (ax := ax) (ay := ay) (bx := ax) (b := ay + 1) (by omega) (by omega))
        have kx : -1003 ≤ ax ∧ ax ≤ 1003 := by rw [hax]; simp only [show offX 2 3 = 0 from rfl]; omega
        have ky : -1003 ≤ ay ∧ ay ≤ 1003 := by rw [hay]; simp only [show offY 2 3 = -1 from rfl]; omega
        obtain ⟨kx0, kx1⟩ := kx
        obtain ⟨ky0, ky1⟩ := ky
        have AX := Lib.hid hax
        have AY := Lib.hid hay
        clear hax hay
        go_wp2_with (first
          | (go_at_call 10; refine (left_good _ _ _ (by omega) (by omega)).mono ?_; rintro e w' ⟨rfl, rfl⟩)
          | (go_at_call 19; with_reducible refine (step_N _ T.out).mono ?_; rintro e w1 ⟨rfl, hb1⟩; obtain ⟨hc1, hs1⟩ := bcell hb1; have hf1 := bfrozen hb1; have Q1 := Lib.hid hb1; have z1 : w.heap.size + 1 + 1 < w1.heap.size := (by omega); have y1 : w.heap.size + 1 < w1.heap.size := (by omega); have k1 : w.heap.size < w1.heap.size := (by omega); clear hb1)
          | (go_at_call 19; with_reducible refine (step_S _ (T2 _ (Q1.out.alloc hs1 _))).mono ?_; rintro e w2 ⟨rfl, hb2⟩; obtain ⟨hc2, hs2⟩ := bcell hb2; have hf2 := bfrozen hb2; have Q2 := Lib.hid hb2; (try simp at hs2); have x2 : w1.heap.size < w2.heap.size := (by omega); have z2 : w.heap.size + 1 + 1 < w2.heap.size := (by omega); have y2 : w.heap.size + 1 < w2.heap.size := (by omega); have k2 : w.heap.size < w2.heap.size := (by omega); clear hb2)
          | (go_at_call 18; (first | with_reducible refine (between_k _ _ _ _ 1 1 true _ K.out rfl rfl).mono ?_ | with_reducible refine (between_k _ _ _ _ 1 1 true _ K'.out rfl rfl).mono ?_); rintro e w3 ⟨rfl, hb3⟩; obtain ⟨hc3, hs3⟩ := bcell hb3; have hf3 := bfrozen hb3; have Q3 := Lib.hid hb3; (try simp at hs3); have v3 : w2.heap.size < w3.heap.size := (by omega); have u3 : w2.heap.size + 1 < w3.heap.size := (by omega); have x3 : w1.heap.size < w3.heap.size := (by omega); have z3 : w.heap.size + 1 + 1 < w3.heap.size := (by omega); have y3 : w.heap.size + 1 < w3.heap.size := (by omega); clear hb3))
        go_roundw
        case rel => exact ⟨4, ax, ay + 1, by omega, by go_num, by have := AX.out; rw [show offX 2 3 = 0 from rfl] at this; rw [show offX 2 4 = 0 from rfl]; omega, by have := AY.out; rw [show offY 2 3 = -1 from rfl] at this; rw [show offY 2 4 = 0 from rfl]; omega,
          (((((((HB.out.trans (Q1.out.mono (by omega))).alloc (by omega) _).trans (Q2.out.mono (by simp; omega))).alloc (by omega) _).alloc (by simp; omega) _).trans (Q3.out.mono (by simp; omega))).setCell (by simp; omega) _).setCell (by simp; omega) _, by simp; omega, by go_simp, by go_simp, by go_simp, by go_simp, by go_simp, by go_simp⟩
        case measure => simp [intOf]
      obtain rfl : k = 4 := by omega
      have ex : ax = qx := by rw [hax]; simp only [show offX 2 4 = 0 from rfl]; omega
      have ey : ay = qy := by rw [hay]; simp only [show offY 2 4 = 0 from rfl]; omega
      subst ex ey
      clear hax hay
      go_wp2_with (go_at_call 14; refine (wakes_any _ T.out).mono ?_; rintro e w2 ⟨rfl, hb2⟩; obtain ⟨hc2, hs2⟩ := bcell hb2; have y2 : w.heap.size + 1 < wr.heap.size := (by omega); have Q := Lib.hid (HB.out.trans (hb2.mono (by omega))); clear hb2)
      go_ret
      exact ⟨rfl, Q.out⟩

set_option maxRecDepth 100000 in
set_option maxHeartbeats 1000000 in
theorem steps_3 (d px py : Int) (w : World) (hT : Tabs w) (hd : 0 < d) (hx : d % 4 = 3) :
    Calls Tryd.prog 7 #[.int .i64 d, .agg #[.int .i64 px, .int .i64 py]] w fun r w' => r = .returned (.bool true) ∧ Below w.heap.size w w' := by
  have hr2 := hT.room
  have HT := Lib.hid hT
  have bx := tmod1000 px
  have b := tmod1000 py
  clear hT
  go_enter Tryd.func7, Tryd.ntmps7
  go_wp2
  generalize px.tmod 1000 = qx at *
  generalize py.tmod 1000 = qy at *
  rw [hx]
  clear hx hd
  obtain ⟨bx0, bx1⟩ := bx
  obtain ⟨b0, b1⟩ := b
  go_loopw [25] (fun i wr => StepsRel w wr 3 qx qy i) (fun i _ => 4 - (intOf i).toNat)
  case atStart => exact ⟨0, qx, qy, by omega, rfl, (Int.add_zero _).symm, (Int.add_zero _).symm, (((Below.refl _ _).alloc (Nat.le_refl _) _).alloc (by simp) _).alloc (by simp; omega) _, by simp, by go_simp, by go_simp, by go_simp, by go_simp, by go_simp, by go_simp⟩
  case round =>
      obtain ⟨k, ax, ay, hk, rfl, hax, hay, hb, hs, c0, c1, c2, c3, f2, f3⟩ := hrel
      have HB := Lib.hid hb
      have T := Lib.hid (HT.out.below hb hr2)
      have hwr := T.out.room
      have ys : w.heap.size + 1 < wr.heap.size := by omega
      have T2 : ∀ w1, Below wr.heap.size wr w1 → Tabs w1 := fun w1 h => T.out.below h hwr
      clear hb
      by_cases h0 : k = 0
      · subst h0
        have K := Lib.hid (btw_S (ax := ax) (ay := ay) (bx := ax) (b := ay - 1) (by omega) (by omega))
        have K' := Lib.hid (btw_S (ax := ax) (ay := ay) (bx := ax) (b := ay + -1) (by omega) (by omega))
        have kx : -1003 ≤ ax ∧ ax ≤ 1003 := by rw [hax]; simp only [show offX 3 0 = 0 from rfl]; omega
        have ky : -1003 ≤ ay ∧ ay ≤ 1003 := by rw [hay]; simp only [show offY 3 0 = 0 from rfl]; omega
        obtain ⟨kx0, kx1⟩ := kx
        obtain ⟨ky0, ky1⟩ := ky
        have AX := Lib.hid hax
        have AY := Lib.hid hay
        clear hax hay
        go_wp2_with (first
          | (go_at_call 10; refine (left_good _ _ _ (by omega) (by omega)).mono ?_; rintro e w' ⟨rfl, rfl⟩)
          | (go_at_call 19; with_reducible refine (step_S _ T.out).mono ?_; rintro e w1 ⟨rfl, hb1⟩; obtain ⟨hc1, hs1⟩ := bcell hb1; have hf1 := bfrozen hb1; have Q1 := Lib.hid hb1; have z1 : w.heap.size + 1 + 1 < w1.heap.size := (by omega); have y1 : w.heap.size + 1 < w1.heap.size := (by omega); have k1 : w.heap.size < w1.heap.size := (by omega); clear hb1)
          | (go_at_call 19; with_reducible refine (step_N _ (T2 _ (Q1.out.alloc hs1 _))).mono ?_; rintro e w2 ⟨rfl, hb2⟩; obtain ⟨hc2, hs2⟩ := bcell hb2; have hf2 := bfrozen hb2; have Q2 := Lib.hid hb2; (try simp at hs2); have x2 : w1.heap.size < w2.heap.size := (by omega); have z2 : w.heap.size + 1 + 1 < w2.heap.size := (by omega); have y2 : w.heap.size + 1 < w2.heap.size := (by omega); have k2 : w.heap.size < w2.heap.size := (by omega); clear hb2)
          | (go_at_call 18; (first | with_reducible refine (between_k _ _ _ _ 3 3 true _ K.out rfl rfl).mono ?_ | with_reducible refine (between_k _ _ _ _ 3 3 true _ K'.out rfl rfl).mono ?_); rintro e w3 ⟨rfl, hb3⟩; obtain ⟨hc3, hs3⟩ := bcell hb3; have hf3 := bfrozen hb3; have Q3 := Lib.hid hb3; (try simp at hs3); have v3 : w2.heap.size < w3.heap.size := (by omega); have u3 : w2.heap.size + 1 < w3.heap.size := (by omega); have x3 : w1.heap.size < w3.heap.size := (by omega); have z3 : w.heap.size + 1 + 1 < w3.heap.size := (by omega); have y3 : w.heap.size + 1 < w3.heap.size := (by omega); clear hb3))
        go_roundw
        case rel => exact ⟨1, ax, ay + -1, by omega, by go_num, by have := AX.out; rw [show offX 3 0 = 0 from rfl] at this; rw [show offX 3 1 = 0 from rfl]; omega, by have := AY.out; rw [show offY 3 0 = 0 from rfl] at this; rw [show offY 3 1 = -1 from rfl]; omega,
          (((((((HB.out.trans (Q1.out.mono (by omega))).alloc (by omega) _).trans (Q2.out.mono (by simp; omega))).alloc (by omega) _).alloc (by simp; omega) _).trans (Q3.out.mono (by simp; omega))).setCell (by simp; omega) _).setCell (by simp; omega) _, by simp; omega, by go_simp, by go_simp, by go_simp, by go_simp, by go_simp, by go_simp⟩
        case measure => simp [intOf]
      by_cases h1 : k = 1
      · subst h1
        have K := Lib.hid (btw_E (ax := ax) (ay := ay) (bx := ax + 1) (b := ay) (by omega) (by omega))
        have K' := Lib.hid (btw_E (ax := ax) (ay := ay) (bx := ax + 1) (b := ay) (by omega) (by omega))
        have kx : -1003 ≤ ax ∧ ax ≤ 1003 := by rw [hax]; simp only [show offX 3 1 = 0 from rfl]; omega
        have ky : -1003 ≤ ay ∧ ay ≤ 1003 := by rw [hay]; simp only [show offY 3 1 = -1 from rfl]; omega
        obtain ⟨kx0, kx1⟩ := kx
        obtain ⟨ky0, ky1⟩ := ky
        have AX := Lib.hid hax
        have AY := Lib.hid hay
        clear hax hay
        go_wp2_with (first
          | (go_at_call 10; refine (left_good _ _ _ (by omega) (by omega)).mono ?_; rintro e w' ⟨rfl, rfl⟩)
          | (go_at_call 19; with_reducible refine (step_E _ T.out).mono ?_; rintro e w1 ⟨rfl, hb1⟩; obtain ⟨hc1, hs1⟩ := bcell hb1; have hf1 := bfrozen hb1; have Q1 := Lib.hid hb1; have z1 : w.heap.size + 1 + 1 < w1.heap.size := (by omega); have y1 : w.heap.size + 1 < w1.heap.size := (by omega); have k1 : w.heap.size < w1.heap.size := (by omega); clear hb1)
          | (go_at_call 19; with_reducible refine (step_W _ (T2 _ (Q1.out.alloc hs1 _))).mono ?_; rintro e w2 ⟨rfl, hb2⟩; obtain ⟨hc2, hs2⟩ := bcell hb2; have hf2 := bfrozen hb2; have Q2 := Lib.hid hb2; (try simp at hs2); have x2 : w1.heap.size < w2.heap.size := (by omega); have z2 : w.heap.size + 1 + 1 < w2.heap.size := (by omega); have y2 : w.heap.size + 1 < w2.heap.size := (by omega); have k2 : w.heap.size < w2.heap.size := (by omega); clear hb2)
          | (go_at_call 18; (first | with_reducible refine (between_k _ _ _ _ 0 0 true _ K.out rfl rfl).mono ?_ | with_reducible refine (between_k _ _ _ _ 0 0 true _ K'.out rfl rfl).mono ?_); rintro e w3 ⟨rfl, hb3⟩; obtain ⟨hc3, hs3⟩ := bcell hb3; have hf3 := bfrozen hb3; have Q3 := Lib.hid hb3; (try simp at hs3); have v3 : w2.heap.size < w3.heap.size := (by omega); have u3 : w2.heap.size + 1 < w3.heap.size := (by omega); have x3 : w1.heap.size < w3.heap.size := (by omega); have z3 : w.heap.size + 1 + 1 < w3.heap.size := (by omega); have y3 : w.heap.size + 1 < w3.heap.size := (by omega); clear hb3))
        go_roundw
        case rel => exact ⟨2, ax + 1, ay, by omega, by go_num, by have := AX.out; rw [show offX 3 1 = 0 from rfl] at this; rw [show offX 3 2 = 1 from rfl]; omega, by have := AY.out; rw [show offY 3 1 = -1 from rfl] at this; rw [show offY 3 2 = -1 from rfl]; omega,
          (((((((HB.out.trans (Q1.out.mono (by omega))).alloc (by omega) _).trans (Q2.out.mono (by simp; omega))).alloc (by omega) _).alloc (by simp; omega) _).trans (Q3.out.mono (by simp; omega))).setCell (by simp; omega) _).setCell (by simp; omega) _, by simp; omega, by go_simp, by go_simp, by go_simp, by go_simp, by go_simp, by go_simp⟩
        case measure => simp [intOf]
      by_cases h2 : k = 2
      · subst h2
        have K := Lib.hid (btw_N (ax := ax) (ay := ay) (bx := ax) (b := ay + 1) (by omega) (by omega))
        have K' := Lib.hid (btw_N (ax := ax) (ay := ay) (bx := ax) (b := ay + 1) (by omega) (by omega))
        have kx : -1003 ≤ ax ∧ ax ≤ 1003 := by rw [hax]; simp only [show offX 3 2 = 1 from rfl]; omega
        have ky : -1003 ≤ ay ∧ ay ≤ 1003 := by rw [hay]; simp only [show offY 3 2 = -1 from rfl]; omega
        obtain ⟨kx0, kx1⟩ := kx
        obtain ⟨ky0, ky1⟩ := ky
        have AX := Lib.hid hax
        have AY := Lib.hid hay
        clear hax hay
        go_wp2_with (first
          | (go_at_call 10; refine (left_good _ _ _ (by omega) (by omega)).mono ?_; rintro e w' ⟨rfl, rfl⟩)
          | (go_at_call 19; with_reducible refine (step_N _ T.out).mono ?_; rintro e w1 ⟨rfl, hb1⟩; obtain ⟨hc1, hs1⟩ := bcell hb1; have hf1 := bfrozen hb1; have Q1 := Lib.hid hb1; have z1 : w.heap.size + 1 + 1 < w1.heap.size := (by omega); have y1 : w.heap.size + 1 < w1.heap.size := (by omega); have k1 : w.heap.size < w1.heap.size := (by omega); clear hb1)
          | (go_at_call 19; with_reducible refine (step_S _ (T2 _ (Q1.out.alloc hs1 _))).mono ?_; rintro e w2 ⟨rfl, hb2⟩; obtain ⟨hc2, hs2⟩ := bcell hb2; have hf2 := bfrozen hb2; have Q2 := Lib.hid hb2; (try simp at hs2); have x2 : w1.heap.size < w2.heap.size := (by omega); have z2 : w.heap.size + 1 + 1 < w2.heap.size := (by omega); have y2 : w.heap.size + 1 < w2.heap.size := (by omega); have k2 : w.heap.size < w2.heap.size := (by omega); clear hb2)
          | (go_at_call 18; (first | with_reducible refine (between_k _ _ _ _ 1 1 true _ K.out rfl rfl).mono ?_ | with_reducible refine (between_k _ _ _ _ 1 1 true _ K'.out rfl rfl).mono ?_); rintro e w3 ⟨rfl, hb3⟩; obtain ⟨hc3, hs3⟩ := bcell hb3; have hf3 := bfrozen hb3; have Q3 := Lib.hid hb3; (try simp at hs3); have v3 : w2.heap.size < w3.heap.size := (by omega); have u3 : w2.heap.size + 1 < w3.heap.size := (by omega); have x3 : w1.heap.size < w3.heap.size := (by omega); have z3 : w.heap.size + 1 + 1 < w3.heap.size := (by omega); have y3 : w.heap.size + 1 < w3.heap.size := (by omega); clear hb3))
        go_roundw
        case rel => exact ⟨3, ax, ay + 1, by omega, by go_num, by have := AX.out; rw [show offX 3 2 = 1 from rfl] at this; rw [show offX 3 3 = 1 from rfl]; omega, by have := AY.out; rw [show offY 3 2 = -1 from rfl] at this; rw [show offY 3 3 = 0 from rfl]; omega,
          (((((((HB.out.trans (Q1.out.mono (by omega))).alloc (by omega) _).trans (Q2.out.mono (by simp; omega))).alloc (by omega) _).alloc (by simp; omega) _).trans (Q3.out.mono (by simp; omega))).setCell (by simp; omega) _).setCell (by simp; omega) _, by simp; omega, by go_simp, by go_simp, by go_simp, by go_simp, by go_simp, by go_simp⟩
        case measure => simp [intOf]
      by_cases h3 : k = 3
      · subst h3
        have K := Lib.hid (btw_W (ax := ax) (ay := ay) (bx := ax - 1) (b := ay) (by omega) (by omega))
        have K' := Lib.hid (btw_W (ax := ax) (ay := ay) (bx := ax + -1) (b := ay) (by omega) (by omega))
        have kx : -1003 ≤ ax ∧ ax ≤ 1003 := by rw [hax]; simp only [show offX 3 3 = 1 from rfl]; omega
        have ky : -1003 ≤ ay ∧ ay ≤ 1003 := by rw [hay]; simp only [show offY 3 3 = 0 from rfl]; omega
        obtain ⟨kx0, kx1⟩ := kx
        obtain ⟨ky0, ky1⟩ := ky
        have AX := Lib.hid hax
        have AY := Lib.hid hay
        clear hax hay
        go_wp2_with (first
          | (go_at_call 10; refine (left_good _ _ _ (by omega) (by omega)).mono ?_; rintro e w' ⟨rfl, rfl⟩)
          | (go_at_call 19; with_reducible refine (step_W _ T.out).mono ?_; rintro e w1 ⟨rfl, hb1⟩; obtain ⟨hc1, hs1⟩ := bcell hb1; have hf1 := bfrozen hb1; have Q1 := Lib.hid hb1; have z1 : w.heap.size + 1 + 1 < w1.heap.size := (by omega); have y1 : w.heap.size + 1 < w1.heap.size := (by omega); have k1 : w.heap.size < w1.heap.size := (by omega); clear hb1)
          | (go_at_call 19; with_reducible refine (step_E _ (T2 _ (Q1.out.alloc hs1 _))).mono ?_; rintro e w2 ⟨rfl, hb2⟩; obtain ⟨hc2, hs2⟩ := bcell hb2; have hf2 := bfrozen hb2; have Q2 := Lib.hid hb2; (try simp at hs2); have x2 : w1.heap.size < w2.heap.size := (by omega); have z2 : w.heap.size + 1 + 1 < w2.heap.size := (by omega); have y2 : w.heap.size + 1 < w2.heap.size := (by omega); have k2 : w.heap.size < w2.heap.size := (by omega); clear hb2)
          | (go_at_call 18; (first | with_reducible refine (between_k _ _ _ _ 2 2 true _ K.out rfl rfl).mono ?_ | with_reducible refine (between_k _ _ _ _ 2 2 true _ K'.out rfl rfl).mono ?_); rintro e w3 ⟨rfl, hb3⟩; obtain ⟨hc3, hs3⟩ := bcell hb3; have hf3 := bfrozen hb3; have Q3 := Lib.hid hb3; (try simp at hs3); have v3 : w2.heap.size < w3.heap.size := (by omega); have u3 : w2.heap.size + 1 < w3.heap.size := (by omega); have x3 : w1.heap.size < w3.heap.size := (by omega); have z3 : w.heap.size + 1 + 1 < w3.heap.size := (by omega); have y3 : w.heap.size + 1 < w3.heap.size := (by omega); clear hb3))
        go_roundw
        case rel => exact ⟨4, ax + -1, ay, by omega, by go_num, by have := AX.out; rw [show offX 3 3 = 1 from rfl] at this; rw [show offX 3 4 = 0 from rfl]; omega, by have := AY.out; rw [show offY 3 3 = 0 from rfl] at this; rw [show offY 3 4 = 0 from rfl]; omega,
          (((((((HB.out.trans (Q1.out.mono (by omega))).alloc (by omega) _).trans (Q2.out.mono (by simp; omega))).alloc (by omega) _).alloc (by simp; omega) _).trans (Q3.out.mono (by simp; omega))).setCell (by simp; omega) _).setCell (by simp; omega) _, by simp; omega, by go_simp, by go_simp, by go_simp, by go_simp, by go_simp, by go_simp⟩
        case measure => simp [intOf]
      obtain rfl : k = 4 := by omega
      have ex : ax = qx := by rw [hax]; simp only [show offX 3 4 = 0 from rfl]; omega
      have ey : ay = qy := by rw [hay]; simp only [show offY 3 4 = 0 from rfl]; omega
      subst ex ey
      clear hax hay
      go_wp2_with (go_at_call 14; refine (wakes_any _ T.out).mono ?_; rintro e w2 ⟨rfl, hb2⟩; obtain ⟨hc2, hs2⟩ := bcell hb2; have y2 : w.heap.size + 1 < wr.heap.size := (by omega); have Q := Lib.hid (HB.out.trans (hb2.mono (by omega))); clear hb2)
      go_ret
      exact ⟨rfl, Q.out⟩

set_option maxRecDepth 100000 in
set_option maxHeartbeats 1000000 in
theorem steps_n (d px py : Int) (w : World) (hT : Tabs w) (hd : d ≤ 0) :
    Calls Tryd.prog 7 #[.int .i64 d, .agg #[.int .i64 px, .int .i64 py]] w fun r w' => r = .returned (.bool true) ∧ Below w.heap.size w w' := by
  have hr2 := hT.room
  have HT := Lib.hid hT
  have bx := tmod1000 px
  have b := tmod1000 py
  clear hT
  go_enter Tryd.func7, Tryd.ntmps7
  go_wp2
  generalize px.tmod 1000 = qx at *
  generalize py.tmod 1000 = qy at *
  obtain ⟨bx0, bx1⟩ := bx
  obtain ⟨b0, b1⟩ := b
  go_loopw [25] (fun i wr => StepsRel w wr 0 qx qy i) (fun i _ => 4 - (intOf i).toNat)
  case atStart => exact ⟨0, qx, qy, by omega, rfl, (Int.add_zero _).symm, (Int.add_zero _).symm, (((Below.refl _ _).alloc (Nat.le_refl _) _).alloc (by simp) _).alloc (by simp; omega) _, by simp, by go_simp, by go_simp, by go_simp, by go_simp, by go_simp, by go_simp⟩
  case round =>
      obtain ⟨k, ax, ay, hk, rfl, hax, hay, hb, hs, c0, c1, c2, c3, f2, f3⟩ := hrel
      have HB := Lib.hid hb
      have T := Lib.hid (HT.out.below hb hr2)
      have hwr := T.out.room
      have ys : w.heap.size + 1 < wr.heap.size := by omega
      have T2 : ∀ w1, Below wr.heap.size wr w1 → Tabs w1 := fun w1 h => T.out.below h hwr
      clear hb
      by_cases h0 : k = 0
      · subst h0
        have K := Lib.hid (btw_E (ax := ax) (ay := ay) (bx := ax + 1) (b := ay) (by omega) (by omega))
        have K' := Lib.hid (btw_E (ax := ax) (ay := ay) (bx := ax + 1) (b := ay) (by omega) (by omega))
        have kx : -1003 ≤ ax ∧ ax ≤ 1003 := by rw [hax]; simp only [show offX 0 0 = 0 from rfl]; omega
        have ky : -1003 ≤ ay ∧ ay ≤ 1003 := by rw [hay]; simp only [show offY 0 0 = 0 from rfl]; omega
        obtain ⟨kx0, kx1⟩ := kx
        obtain ⟨ky0, ky1⟩ := ky
        have AX := Lib.hid hax
        have AY := Lib.hid hay
        clear hax hay
        go_wp2_with (first
          | (go_at_call 10; refine (left_good _ _ _ (by omega) (by omega)).mono ?_; rintro e w' ⟨rfl, rfl⟩)
          | (go_at_call 19; with_reducible refine (step_E _ T.out).mono ?_; rintro e w1 ⟨rfl, hb1⟩; obtain ⟨hc1, hs1⟩ := bcell hb1; have hf1 := bfrozen hb1; have Q1 := Lib.hid hb1; have z1 : w.heap.size + 1 + 1 < w1.heap.size := (by omega); have y1 : w.heap.size + 1 < w1.heap.size := (by omega); have k1 : w.heap.size < w1.heap.size := (by omega); clear hb1)
          | (go_at_call 19; with_reducible refine (step_W _ (T2 _ (Q1.out.alloc hs1 _))).mono ?_; rintro e w2 ⟨rfl, hb2⟩; obtain ⟨hc2, hs2⟩ := bcell hb2; have hf2 := bfrozen hb2; have Q2 := Lib.hid hb2; (try simp at hs2); have x2 : w1.heap.size < w2.heap.size := (by omega); have z2 : w.heap.size + 1 + 1 < w2.heap.size := (by omega); have y2 : w.heap.size + 1 < w2.heap.size := (by omega); have k2 : w.heap.size < w2.heap.size := (by omega); clear hb2)
          | (go_at_call 18; (first | with_reducible refine (between_k _ _ _ _ 0 0 true _ K.out rfl rfl).mono ?_ | with_reducible refine (between_k _ _ _ _ 0 0 true _ K'.out rfl rfl).mono ?_); rintro e w3 ⟨rfl, hb3⟩; obtain ⟨hc3, hs3⟩ := bcell hb3; have hf3 := bfrozen hb3; have Q3 := Lib.hid hb3; (try simp at hs3); have v3 : w2.heap.size < w3.heap.size := (by omega); have u3 : w2.heap.size + 1 < w3.heap.size := (by omega); have x3 : w1.heap.size < w3.heap.size := (by omega); have z3 : w.heap.size + 1 + 1 < w3.heap.size := (by omega); have y3 : w.heap.size + 1 < w3.heap.size := (by omega); clear hb3))
        go_roundw
        case rel => exact ⟨1, ax + 1, ay, by omega, by go_num, by have := AX.out; rw [show offX 0 0 = 0 from rfl] at this; rw [show offX 0 1 = 1 from rfl]; omega, by have := AY.out; rw [show offY 0 0 = 0 from rfl] at this; rw [show offY 0 1 = 0 from rfl]; omega,
          (((((((HB.out.trans (Q1.out.mono (by omega))).alloc (by omega) _).trans (Q2.out.mono (by simp; omega))).alloc (by omega) _).alloc (by simp; omega) _).trans (Q3.out.mono (by simp; omega))).setCell (by simp; omega) _).setCell (by simp; omega) _, by simp; omega, by go_simp, by go_simp, by go_simp, by go_simp, by go_simp, by go_simp⟩
        case measure => simp [intOf]
      by_cases h1 : k = 1
      · subst h1
        have K := Lib.hid (btw_N (ax := ax) (ay := ay) (bx := ax) (b := ay + 1) (by omega) (by omega))
        have K' := Lib.hid (btw_N (ax := ax) (ay := ay) (bx := ax) (b := ay + 1) (by omega) (by omega))
        have kx : -1003 ≤ ax ∧ ax ≤ 1003 := by rw [hax]; simp only [show offX 0 1 = 1 from rfl]; omega
        have ky : -1003 ≤ ay ∧ ay ≤ 1003 := by rw [hay]; simp only [show offY 0 1 = 0 from rfl]; omega
        obtain ⟨kx0, kx1⟩ := kx
        obtain ⟨ky0, ky1⟩ := ky
        have AX := Lib.hid hax
        have AY := Lib.hid hay
        clear hax hay
        go_wp2_with (first
          | (go_at_call 10; refine (left_good _ _ _ (by omega) (by omega)).mono ?_; rintro e w' ⟨rfl, rfl⟩)
          | (go_at_call 19; with_reducible refine (step_N _ T.out).mono ?_; rintro e w1 ⟨rfl, hb1⟩; obtain ⟨hc1, hs1⟩ := bcell hb1; have hf1 := bfrozen hb1; have Q1 := Lib.hid hb1; have z1 : w.heap.size + 1 + 1 < w1.heap.size := (by omega); have y1 : w.heap.size + 1 < w1.heap.size := (by omega); have k1 : w.heap.size < w1.heap.size := (by omega); clear hb1)
          | (go_at_call 19; with_reducible refine (step_S _ (T2 _ (Q1.out.alloc hs1 _))).mono ?_; rintro e w2 ⟨rfl, hb2⟩; obtain ⟨hc2, hs2⟩ := bcell hb2; have hf2 := bfrozen hb2; have Q2 := Lib.hid hb2; (try simp at hs2); have x2 : w1.heap.size < w2.heap.size := (by omega); have z2 : w.heap.size + 1 + 1 < w2.heap.size := (by omega); have y2 : w.heap.size + 1 < w2.heap.size := (by omega); have k2 : w.heap.size < w2.heap.size := (by omega); clear hb2)
          | (go_at_call 18; (first | with_reducible refine (between_k _ _ _ _ 1 1 true _ K.out rfl rfl).mono ?_ | with_reducible refine (between_k _ _ _ _ 1 1 true _ K'.out rfl rfl).mono ?_); rintro e w3 ⟨rfl, hb3⟩; obtain ⟨hc3, hs3⟩ := bcell hb3; have hf3 := bfrozen hb3; have Q3 := Lib.hid hb3; (try simp at hs3); have v3 : w2.heap.size < w3.heap.size := (by omega); have u3 : w2.heap.size + 1 < w3.heap.size := (by omega); have x3 : w1.heap.size < w3.heap.size := (by omega); have z3 : w.heap.size + 1 + 1 < w3.heap.size := (by omega); have y3 : w.heap.size + 1 < w3.heap.size := (by omega); clear hb3))
        go_roundw
        case rel => exact ⟨2, ax, ay + 1, by omega, by go_num, by have := AX.out; rw [show offX 0 1 = 1 from rfl] at this; rw [show offX 0 2 = 1 from rfl]; omega, by have := AY.out; rw [show offY 0 1 = 0 from rfl] at this; rw [show offY 0 2 = 1 from rfl]; omega,
          (((((((HB.out.trans (Q1.out.mono (by omega))).alloc (by omega) _).trans (Q2.out.mono (by simp; omega))).alloc (by omega) _).alloc (by simp; omega) _).trans (Q3.out.mono (by simp; omega))).setCell (by simp; omega) _).setCell (by simp; omega) _, by simp; omega, by go_simp, by go_simp, by go_simp, by go_simp, by go_simp, by go_simp⟩
        case measure => simp [intOf]
      by_cases h2 : k = 2
      · subst h2
        have K := Lib.hid (btw_W (ax := ax) (ay := ay) (bx := ax - 1) (b := ay) (by omega) (by omega))
        have K' := Lib.hid (btw_W (ax := ax) (ay := ay) (bx := ax + -1) (b := ay) (by omega) (by omega))
        have kx : -1003 ≤ ax ∧ ax ≤ 1003 := by rw [hax]; simp only [show offX 0 2 = 1 from rfl]; omega
        have ky : -1003 ≤ ay ∧ ay ≤ 1003 := by rw [hay]; simp only [show offY 0 2 = 1 from rfl]; omega
        obtain ⟨kx0, kx1⟩ := kx
        obtain ⟨ky0, ky1⟩ := ky
        have AX := Lib.hid hax
        have AY := Lib.hid hay
        clear hax hay
        go_wp2_with (first
          | (go_at_call 10; refine (left_good _ _ _ (by omega) (by omega)).mono ?_; rintro e w' ⟨rfl, rfl⟩)
          | (go_at_call 19; with_reducible refine (step_W _ T.out).mono ?_; rintro e w1 ⟨rfl, hb1⟩; obtain ⟨hc1, hs1⟩ := bcell hb1; have hf1 := bfrozen hb1; have Q1 := Lib.hid hb1; have z1 : w.heap.size + 1 + 1 < w1.heap.size := (by omega); have y1 : w.heap.size + 1 < w1.heap.size := (by omega); have k1 : w.heap.size < w1.heap.size := (by omega); clear hb1)
          | (go_at_call 19; with_reducible refine (step_E _ (T2 _ (Q1.out.alloc hs1 _))).mono ?_; rintro e w2 ⟨rfl, hb2⟩; obtain ⟨hc2, hs2⟩ := bcell hb2; have hf2 := bfrozen hb2; have Q2 := Lib.hid hb2; (try simp at hs2); have x2 : w1.heap.size < w2.heap.size := (by omega); have z2 : w.heap.size + 1 + 1 < w2.heap.size := (by omega); have y2 : w.heap.size + 1 < w2.heap.size := (by omega); have k2 : w.heap.size < w2.heap.size := (by omega); clear hb2)
          | (go_at_call 18; (first | with_reducible refine (between_k _ _ _ _ 2 2 true _ K.out rfl rfl).mono ?_ | with_reducible refine (between_k _ _ _ _ 2 2 true _ K'.out rfl rfl).mono ?_); rintro e w3 ⟨rfl, hb3⟩; obtain ⟨hc3, hs3⟩ := bcell hb3; have hf3 := bfrozen hb3; have Q3 := Lib.hid hb3; (try simp at hs3); have v3 : w2.heap.size < w3.heap.size := (by omega); have u3 : w2.heap.size + 1 < w3.heap.size := (by omega); have x3 : w1.heap.size < w3.heap.size := (by omega); have z3 : w.heap.size + 1 + 1 < w3.heap.size := (by omega); have y3 : w.heap.size + 1 < w3.heap.size := (by omega); clear hb3))
        go_roundw
        case rel => exact ⟨3, ax + -1, ay, by omega, by go_num, by have := AX.out; rw [show offX 0 2 = 1 from rfl] at this; rw [show offX 0 3 = 0 from rfl]; omega, by have := AY.out; rw [show offY 0 2 = 1 from rfl] at this; rw [show offY 0 3 = 1 from rfl]; omega,
          (((((((HB.out.trans (Q1.out.mono (by omega))).alloc (by omega) _).trans (Q2.out.mono (by simp; omega))).alloc (by omega) _).alloc (by simp; omega) _).trans (Q3.out.mono (by simp; omega))).setCell (by simp; omega) _).setCell (by simp; omega) _, by simp; omega, by go_simp, by go_simp, by go_simp, by go_simp, by go_simp, by go_simp⟩
        case measure => simp [intOf]
      by_cases h3 : k = 3
      · subst h3
        have K := Lib.hid (btw_S (ax := ax) (ay := ay) (bx := ax) (b := ay - 1) (by omega) (by omega))
        have K' := Lib.hid (btw_S (ax := ax) (ay := ay) (bx := ax) (b := ay + -1) (by omega) (by omega))
        have kx : -1003 ≤ ax ∧ ax ≤ 1003 := by rw [hax]; simp only [show offX 0 3 = 0 from rfl]; omega
        have ky : -1003 ≤ ay ∧ ay ≤ 1003 := by rw [hay]; simp only [show offY 0 3 = 1 from rfl]; omega
        obtain ⟨kx0, kx1⟩ := kx
        obtain ⟨ky0, ky1⟩ := ky
        have AX := Lib.hid hax
        have AY := Lib.hid hay
        clear hax hay
        go_wp2_with (first
          | (go_at_call 10; refine (left_good _ _ _ (by omega) (by omega)).mono ?_; rintro e w' ⟨rfl, rfl⟩)
          | (go_at_call 19; with_reducible refine (step_S _ T.out).mono ?_; rintro e w1 ⟨rfl, hb1⟩; obtain ⟨hc1, hs1⟩ := bcell hb1; have hf1 := bfrozen hb1; have Q1 := Lib.hid hb1; have z1 : w.heap.size + 1 + 1 < w1.heap.size := (by omega); have y1 : w.heap.size + 1 < w1.heap.size := (by omega); have k1 : w.heap.size < w1.heap.size := (by omega); clear hb1)
          | (go_at_call 19; with_reducible refine (step_N _ (T2 _ (Q1.out.alloc hs1 _))).mono ?_; rintro e w2 ⟨rfl, hb2⟩; obtain ⟨hc2, hs2⟩ := bcell hb2; have hf2 := bfrozen hb2; have Q2 := Lib.hid hb2; (try simp at hs2); have x2 : w1.heap.size < w2.heap.size := (by omega); have z2 : w.heap.size + 1 + 1 < w2.heap.size := (by omega); have y2 : w.heap.size + 1 < w2.heap.size := (by omega); have k2 : w.heap.size < w2.heap.size := (by omega); clear hb2)
          | (go_at_call 18; (first | with_reducible refine (between_k _ _ _ _ 3 3 true _ K.out rfl rfl).mono ?_ | with_reducible refine (between_k _ _ _ _ 3 3 true _ K'.out rfl rfl).mono ?_); rintro e w3 ⟨rfl, hb3⟩; obtain ⟨hc3, hs3⟩ := bcell hb3; have hf3 := bfrozen hb3; have Q3 := Lib.hid hb3; (try simp at hs3); have v3 : w2.heap.size < w3.heap.size := (by omega); have u3 : w2.heap.size + 1 < w3.heap.size := (by omega); have x3 : w1.heap.size < w3.heap.size := (by omega); have z3 : w.heap.size + 1 + 1 < w3.heap.size := (by omega); have y3 : w.heap.size + 1 < w3.heap.size := (by omega); clear hb3))
        go_roundw
        case rel => exact ⟨4, ax, ay + -1, by omega, by go_num, by have := AX.out; rw [show offX 0 3 = 0 from rfl] at this; rw [show offX 0 4 = 0 from rfl]; omega, by have := AY.out; rw [show offY 0 3 = 1 from rfl] at this; rw [show offY 0 4 = 0 from rfl]; omega,
          (((((((HB.out.trans (Q1.out.mono (by omega))).alloc (by omega) _).trans (Q2.out.mono (by simp; omega))).alloc (by omega) _).alloc (by simp; omega) _).trans (Q3.out.mono (by simp; omega))).setCell (by simp; omega) _).setCell (by simp; omega) _, by simp; omega, by go_simp, by go_simp, by go_simp, by go_simp, by go_simp, by go_simp⟩
        case measure => simp [intOf]
      obtain rfl : k = 4 := by omega
      have ex : ax = qx := by rw [hax]; simp only [show offX 0 4 = 0 from rfl]; omega
      have ey : ay = qy := by rw [hay]; simp only [show offY 0 4 = 0 from rfl]; omega
      subst ex ey
      clear hax hay
      go_wp2_with (go_at_call 14; refine (wakes_any _ T.out).mono ?_; rintro e w2 ⟨rfl, hb2⟩; obtain ⟨hc2, hs2⟩ := bcell hb2; have y2 : w.heap.size + 1 < wr.heap.size := (by omega); have Q := Lib.hid (HB.out.trans (hb2.mono (by omega))); clear hb2)
      go_ret
      exact ⟨rfl, Q.out⟩

theorem steps_any (d px py : Int) (w : World) (hT : Tabs w) :
    Calls Tryd.prog 7 #[.int .i64 d, .agg #[.int .i64 px, .int .i64 py]] w fun r w' => r = .returned (.bool true) ∧ Below w.heap.size w w' := by
  by_cases hd : 0 < d
  · have hk : d % 4 = 0 ∨ d % 4 = 1 ∨ d % 4 = 2 ∨ d % 4 = 3 := by omega
    rcases hk with h | h | h | h
    · exact steps_0 d px py w hT hd h
    · exact steps_1 d px py w hT hd h
    · exact steps_2 d px py w hT hd h
    · exact steps_3 d px py w hT hd h
  · exact steps_n d px py w hT (by omega)
end Go.Proofs.YtnfaebcbcmodmaaDoor
