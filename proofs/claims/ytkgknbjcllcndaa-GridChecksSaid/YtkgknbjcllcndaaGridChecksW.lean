/-
  GridChecks: the walk: at all cases the call answers true and turns nothing that was there. Conditions: none.
-/
import Derived.Test.YtkgknbjcllcndaaGdM
import Derived.Test.YtkgknbjcllcndaaGdO
import Derived.Test.YtkgknbjcllcndaaGrV
import Derived.BigRegion
namespace Go.Proofs.Ytkgknbjcllcndaa
open Go.RowKit Go.Proofs.Ytkgknbjcllcndaa.GrM

/-- Three lists in a row. -/
theorem three_at {w : World} {T : TypeId} {s0 s1 s2 : Value} {g : Nat} (h : w.heap[g]? = some (.cells #[s0, s1, s2] T (0, 0))) {j : Nat} (hj : j < 3) (hC : ∀ s, s = s0 ∨ s = s1 ∨ s = s2 → ∃ A n c L, s = .slice A n c ∧ CelAt w s L n ∧ n ≤ 12) :
    ∃ A n c L, w.cell? ⟨g, j, none⟩ = some (.slice A n c) ∧ CelAt w (.slice A n c) L n ∧ n ≤ 12 := by
  have hc : j = 0 ∨ j = 1 ∨ j = 2 := by omega
  rcases hc with rfl | rfl | rfl
  · obtain ⟨A, n, c, L, e, h1, h2⟩ := hC s0 (Or.inl rfl)
    subst e
    exact ⟨A, n, c, L, by simp [World.cell?, h], h1, h2⟩
  · obtain ⟨A, n, c, L, e, h1, h2⟩ := hC s1 (Or.inr (Or.inl rfl))
    subst e
    exact ⟨A, n, c, L, by simp [World.cell?, h], h1, h2⟩
  · obtain ⟨A, n, c, L, e, h1, h2⟩ := hC s2 (Or.inr (Or.inr rfl))
    subst e
    exact ⟨A, n, c, L, by simp [World.cell?, h], h1, h2⟩
def CkL (wb wr : World) (jv : Value) : Prop := ∃ j : Nat, jv = .int .i64 j ∧ j ≤ 3 ∧ Below wb.heap.size wb wr
def CkZ (B : Nat) (wb wr : World) (A : Option Addr) (n c : Nat) (iv : Value) : Prop := ∃ (i : Nat) (M : List Int), iv = .int .i64 i ∧ i ≤ n ∧ OwnG wr B (.slice A n c) M n ∧ Below B wb wr
def Ck1 (B : Nat) (wb : World) (A : Option Addr) (c N : Nat) (w' : World) : Prop := ∃ M, OwnG w' B (.slice A N c) M N ∧ Below B wb w'
set_option maxHeartbeats 16000000 in
set_option maxRecDepth 100000 in
theorem checks10 {A1 A2 A3 : Option Addr} {n1 n2 n3 : Nat} (c1 c2 c3 : Nat) {D1 D2 D3 : Nat → Int} (AR : Option Addr) (nR cR : Nat) (u0 u1 x : Int) (w : World) (h : Plane w A1 A2 A3 n1 n2 n3 D1 D2 D3) (h0 : 0 ≤ u0 ∧ u0 ≤ 255) (h1 : 0 ≤ u1 ∧ u1 ≤ 255)
    (KR : Nat) (LR : List Int) (hR : CelAt w (.slice AR KR cR) LR KR) (hKR : KR ≤ 6) (hKc : KR ≤ cR) (hmin : (if (6 : Int) < (nR : Int) then (6 : Int) else (nR : Int)) = (KR : Int)) :
    Calls Try.prog 4 #[.agg #[.slice A1 n1 c1, .slice A2 n2 c2, .slice A3 n3 c3, .slice AR nR cR, .int .u8 u0, .int .u8 u1, .int .i64 x]] w fun e w' => e = .returned (.bool true) ∧ Below w.heap.size w w' := by
  have HP := Lib.hid h
  have HR := Lib.hid hR
  have WK := Lib.hid (fun w => wakes10 w)
  have hu := Lib.hid (And.intro h0 h1)
  clear h h0 h1 hR
  go_enter Try.func4, Try.ntmps4
  go_upto_region 1 with (fail)
  obtain ⟨wb, hwb⟩ : ∃ W, W = (w.alloc (.cells #[.slice A1 n1 c1, .slice A2 n2 c2, .slice A3 n3 c3, .slice AR nR cR, .int .u8 u0, .int .u8 u1, .int .i64 x] 56)) := ⟨_, rfl⟩
  have BB : Hid (Below w.heap.size w wb) := Lib.hid (by rw [hwb]; exact (Below.refl _ _).alloc (Nat.le_refl _) _)
  have x0 : wb.cell? ⟨w.heap.size, 0, none⟩ = some (.slice A1 n1 c1) := by rw [hwb]; go_simp
  have x1 : wb.cell? ⟨w.heap.size, 1, none⟩ = some (.slice A2 n2 c2) := by rw [hwb]; go_simp
  have x2 : wb.cell? ⟨w.heap.size, 2, none⟩ = some (.slice A3 n3 c3) := by rw [hwb]; go_simp
  have x3 : wb.cell? ⟨w.heap.size, 3, none⟩ = some (.slice AR nR cR) := by rw [hwb]; go_simp
  have k0 : wb.cell? ⟨w.heap.size, 4, none⟩ = some (.int .u8 u0) := by rw [hwb]; go_simp
  have k1 : wb.cell? ⟨w.heap.size, 5, none⟩ = some (.int .u8 u1) := by rw [hwb]; go_simp
  have k2 : wb.cell? ⟨w.heap.size, 6, none⟩ = some (.int .i64 x) := by rw [hwb]; go_simp
  have hgb : w.heap.size < wb.heap.size := by rw [hwb]; simp
  rw [← hwb]
  clear hwb
  go_region
  obtain ⟨wa, hwa⟩ : ∃ W, W = (wb.alloc (.cells #[.int .u8 u0, .int .u8 u1] 54)).drew := ⟨_, rfl⟩
  have BA : Hid (Below wb.heap.size wb wa) := Lib.hid (by rw [hwa]; exact ((Below.refl _ _).alloc (Nat.le_refl _) _).drew)
  have j0 : wa.cell? ⟨wb.heap.size, 0, none⟩ = some (.int .u8 u0) := by rw [hwa]; go_simp
  have j1 : wa.cell? ⟨wb.heap.size, 1, none⟩ = some (.int .u8 u1) := by rw [hwa]; go_simp
  have hga : wb.heap.size < wa.heap.size := by rw [hwa]; simp
  have y0 := (BA.out.cell (p := ⟨w.heap.size, 0, none⟩) hgb).trans x0
  have y1 := (BA.out.cell (p := ⟨w.heap.size, 1, none⟩) hgb).trans x1
  have y2 := (BA.out.cell (p := ⟨w.heap.size, 2, none⟩) hgb).trans x2
  rw [← hwa]
  have hgw : w.heap.size < wa.heap.size := by omega
  have BW : Hid (Below w.heap.size w wa) := Lib.hid (BB.out.trans (BA.out.mono BB.out.size))
  generalize wb.heap.size = gb at *
  have KK := Lib.hid (fun wr (b : Below wa.heap.size wa wr) => And.intro ((b.cell (p := ⟨gb, 0, none⟩) hga).trans j0) (And.intro ((b.cell (p := ⟨gb, 1, none⟩) hga).trans j1) (Nat.lt_of_lt_of_le hga b.size)))
  have MK := Lib.hid (make12 c1 c2 c3 (HP.out.below BW.out))
  have RW := Lib.hid (HR.out.below BW.out (Nat.le_refl _))
  clear hwa x0 x1 x2 x3 k0 k1 k2 hgb j0 j1 BB BA HR HP
  go_upto_if 33 with (first
    | (go_at_call 14; refine (cloneC _ L N _ O1.out.cel (by omega)).mono ?_; rintro e w2 ⟨A5, c5, rfl, o2, b2⟩; have O2 := Lib.hid o2; have B2 := Lib.hid b2; clear o2 b2)
    | (go_at_call 21; refine MK.out.mono ?_; rintro e w1 ⟨N, L, A, c, pv, rfl, o1, hg, hN, b1⟩; have O1 := Lib.hid o1; have HG := Lib.hid hg; have B1 := Lib.hid b1; clear o1 hg b1))
  have BW2 : Hid (Below wa.heap.size wa w2) := Lib.hid (B1.out.trans (B2.out.mono B1.out.size))
  obtain ⟨k0, k1, hgk⟩ := KK.out w2 BW2.out
  obtain ⟨⟨r0, r1⟩, r2, r3⟩ := hu.out
  clear y0 y1 y2 hga hgw MK KK hu
  go_cut [] from 61 to 61 (fun wx => Ck1 w1.heap.size w2 A5 c5 N wx)
  case first =>
    by_cases hN0 : 0 < N
    · have q0 : decide (0 < N) = true := decide_eq_true hN0
      obtain ⟨g5, rfl⟩ := own_at O2.out hN0
      obtain ⟨a, ha⟩ : ∃ a : Nat, u0 % (N : Int) = (a : Int) := ⟨(u0 % (N : Int)).toNat, by rw [Int.toNat_of_nonneg (Int.emod_nonneg _ (by omega))]⟩
      have haN : a < N := by have := Int.emod_lt_of_pos u0 (show (0 : Int) < N by omega); omega
      obtain ⟨d, hd⟩ : ∃ d : Nat, u1 % 4 = (d : Int) := ⟨(u1 % 4).toNat, by omega⟩
      have hd4 : d < 4 := by omega
      have hd' : u1.tmod 4 = (d : Int) := by rw [Int.tmod_eq_emod_of_nonneg r2]; exact hd
      have hl5 := O2.out.len
      obtain ⟨y1, j1⟩ : ∃ y, w2.cell? ⟨g5, a * 8 + d, none⟩ = some y := ⟨_, by rw [World.ownsRow.cellAt O2.out (a * 8 + d) (by omega), List.getElem?_eq_getElem (by simp; omega)]⟩
      obtain ⟨y2, j2⟩ : ∃ y, w2.cell? ⟨g5, a * 8 + 4 + d, none⟩ = some y := ⟨_, by rw [World.ownsRow.cellAt O2.out (a * 8 + 4 + d) (by omega), List.getElem?_eq_getElem (by simp; omega)]⟩
      have j3 := World.ownsRow.frozenAt O2.out (a * 8 + d)
      have j4 := World.ownsRow.frozenAt O2.out (a * 8 + 4 + d)
      have z5 := (World.ownsRow.lt O2.out g5 rfl).1
      have OS1 := Lib.hid (O2.out.set (a * 8 + d) x)
      have OS2 := Lib.hid (O2.out.set (a * 8 + 4 + d) x)
      have hN00 : (N == 0) = false := by rw [beq_eq_false_iff_ne]; omega
      clear hl5 hN0
      obtain ⟨t, ht⟩ : ∃ t, (bits BinOp.and .u8 u1 4 == 0) = t := ⟨_, rfl⟩
      go_upto_if 45 with (fail)
      cases t
      · go_upto_region 8 with (fail)
        go_region
        go_wp2_with fail
        go_meet
        exact ⟨_, OS2.out.below (Below.refl _ _).drew (Nat.le_refl _), (((Below.refl w1.heap.size w2).setCell (p := ⟨g5, a * 8 + 4 + d, none⟩) z5 _)).drew⟩
      · go_upto_region 7 with (fail)
        go_region
        go_wp2_with fail
        go_meet
        exact ⟨_, OS1.out.below (Below.refl _ _).drew (Nat.le_refl _), (((Below.refl w1.heap.size w2).setCell (p := ⟨g5, a * 8 + d, none⟩) z5 _)).drew⟩
    · have q0 : decide (0 < N) = false := decide_eq_false hN0
      go_wp2_with fail
      go_meet
      exact ⟨L, O2.out, Below.refl _ _⟩
  case rest =>
    obtain ⟨M, hM, hB3⟩ := hcut
    obtain ⟨w3, hw3⟩ : ∃ W, W = wc := ⟨_, rfl⟩
    subst hw3
    have M3 := Lib.hid hM
    have BL3 : Hid (Below w1.heap.size w1 w3) := Lib.hid (B2.out.trans hB3)
    have BA3 := B1.out.trans (BL3.out.mono B1.out.size)
    have R3 := Lib.hid (RW.out.below BA3 (Nat.le_refl _))
    have BW3 : Hid (Below w.heap.size w w3) := Lib.hid (BW.out.trans (BA3.mono BW.out.size))
    have O3 := Lib.hid (O1.out.below BL3.out (Nat.le_refl _))
    clear hM hB3 k0 k1 hgk O2 B2 BW2 r0 r1 r2 r3 BA3 B1 O1 RW BL3 BW
    go_wp2_with fail
    obtain ⟨wl, hwl⟩ : ∃ W, W = (w3.alloc (.cells #[.slice A N c, .slice A5 N c5, .slice AR KR cR] 27)) := ⟨_, rfl⟩
    have BL : Hid (Below w3.heap.size w3 wl) := Lib.hid (by rw [hwl]; exact (Below.refl _ _).alloc (Nat.le_refl _) _)
    have hl3 : wl.heap[w3.heap.size]? = some (.cells #[.slice A N c, .slice A5 N c5, .slice AR KR cR] 27 (0, 0)) := by rw [hwl]; exact heap_alloc_new w3 _
    have TH := Lib.hid (fun j (hj : j < 3) => three_at hl3 hj (fun s hs => by
      rcases hs with rfl | rfl | rfl
      · exact ⟨_, _, _, L, rfl, OwnG.cel (O3.out.below BL.out (Nat.le_refl _)), hN⟩
      · exact ⟨_, _, _, M, rfl, OwnG.cel (M3.out.below BL.out (Nat.le_refl _)), hN⟩
      · exact ⟨_, _, _, LR, rfl, R3.out.below BL.out (Nat.le_refl _), by omega⟩))
    have hgl : w3.heap.size < wl.heap.size := (Array.getElem?_eq_some_iff.1 hl3).1
    have OL := Lib.hid (OwnG.cel (O3.out.below BL.out (Nat.le_refl _)))
    have BWL : Hid (Below w.heap.size w wl) := Lib.hid (BW3.out.trans (BL.out.mono BW3.out.size))
    rw [← hwl]
    generalize w3.heap.size = gx at *
    clear hl3 hwl M3 R3 O3 BW3 BL
    go_loopw [71] (fun jv wr => CkL wl wr jv) (fun jv _ => 3 - (intOf jv).toNat)
    case atStart => exact ⟨0, rfl, Nat.zero_le _, Below.refl _ _⟩
    case round =>
      obtain ⟨j, rfl, hj, hB⟩ := hrel
      have B := Lib.hid hB
      clear hB
      obtain ⟨wo, hwo⟩ : ∃ W, W = wr := ⟨_, rfl⟩
      subst hwo
      by_cases hj3 : j < 3
      · have q1 : decide (j < 3) = true := decide_eq_true hj3
        have q1' : decide ((j : Int) < 3) = true := decide_eq_true (by omega)
        obtain ⟨Ax, n, cx, Lx, f0, hX, hn⟩ := TH.out j hj3
        have X := Lib.hid (hX.below B.out (Nat.le_refl _))
        have e0 := (B.out.cell (p := ⟨gx, j, none⟩) hgl).trans f0
        have hgo := Nat.lt_of_lt_of_le hgl B.out.size
        clear f0 hX
        have RC := refCheckG _ Lx n wo X.out (by omega)
        by_cases hz : chkG Lx n = 0
        · have OY := Lib.hid (fun w1 (b : Below wo.heap.size wo w1) => ofY _ Lx n w1 (X.out.below b (Nat.le_refl _)) (by omega) hz)
          have CY := Lib.hid (fun w2 (b : Below wo.heap.size wo w2) => checkY _ Lx n w2 (X.out.below b (Nat.le_refl _)) (by omega))
          have HZ := Lib.hid hz
          rw [hz] at RC
          have RC := Lib.hid RC
          clear hz
          go_wp2_with (first
            | (have _z := G2; go_at_call 24; refine (CY.out _ B2.out).mono ?_; rintro e w3 ⟨rfl, b3⟩; rw [HZ.out]; have G3 := Lib.hid (G2.out.below b3); have F3 := Lib.hid F2.out; have B3 : Hid (Below wo.heap.size wo w3) := Lib.hid (B2.out.trans (b3.mono B2.out.size)); clear b3)
            | (have _z := B1; go_at_call 23; refine (OY.out _ B1.out).mono ?_; rintro e w2 ⟨p, v, rfl, g2, f2, b2⟩; have G2 := Lib.hid g2; have F2 := Lib.hid f2; have B2 : Hid (Below wo.heap.size wo w2) := Lib.hid (B1.out.trans (b2.mono B1.out.size)); clear g2 f2 b2)
            | (go_at_call 22; refine RC.out.mono ?_; rintro e w1 ⟨rfl, b1⟩; have B1 := Lib.hid b1; clear b1)
            | (have _z := O4; go_at_call 19; refine (refSameC _ _ Lx Lx n n _ (OwnG.cel O4.out) (X.out.below (B3.out.trans (B4.out.mono B3.out.size)) (Nat.le_refl _)) (by omega) (by omega)).mono ?_; rintro e w5 ⟨rfl, b5⟩; rw [decide_eq_true (rfl : Lx = Lx)]; have B5 := Lib.hid b5; clear b5)
            | (have _z := G3; go_at_call 20; refine (cellsY G3.out (by omega)).mono ?_; rintro e w4 ⟨A4, c4, rfl, o4, b4⟩; have O4 := Lib.hid o4; have B4 := Lib.hid b4; clear o4 b4)
            | (have _z := B5; go_at_call 18; refine (lenY ((G3.out.below B4.out).below B5.out)).mono ?_; rintro e w6 ⟨rfl, rfl⟩))
          have S3 := Lib.hid B3.out.size
          have B35 : Hid (Below w3.heap.size w3 w5) := Lib.hid (B4.out.trans (B5.out.mono B4.out.size))
          have OZ := Lib.hid (O4.out.below B5.out (Nat.le_refl _))
          clear O4 B4 B5 RC OY CY G2 F2 B2 B1 HZ e0 hgo
          go_loopw [108] (fun iv wr => CkZ w3.heap.size w5 wr A4 n c4 iv) (fun iv _ => n - (intOf iv).toNat)
          case atStart => exact ⟨0, Lx, rfl, Nat.zero_le _, OZ.out, Below.refl _ _⟩
          case round =>
            clear OZ
            obtain ⟨i, M2, rfl, hi, hO, hB⟩ := hrel
            have OI := Lib.hid hO
            have BI := Lib.hid hB
            clear hO hB
            by_cases hin : i < n
            · have q2 : decide (i < n) = true := decide_eq_true hin
              obtain ⟨g4, rfl⟩ := own_at OI.out (by omega)
              have hl4 := OI.out.len
              have fx : ∀ k, k < 8 → ∃ y, wr.cell? ⟨g4, i * 8 + k, none⟩ = some y := fun k hk => ⟨_, by rw [World.ownsRow.cellAt OI.out (i * 8 + k) (by omega), List.getElem?_eq_getElem (by simp; omega)]⟩
              obtain ⟨s0, m0⟩ := fx 0 (by decide)
              obtain ⟨s1, m1⟩ := fx 1 (by decide)
              obtain ⟨s2, m2⟩ := fx 2 (by decide)
              obtain ⟨s3, m3⟩ := fx 3 (by decide)
              obtain ⟨s4, m4⟩ := fx 4 (by decide)
              obtain ⟨s5, m5⟩ := fx 5 (by decide)
              obtain ⟨s6, m6⟩ := fx 6 (by decide)
              obtain ⟨s7, m7⟩ := fx 7 (by decide)
              have z0 := World.ownsRow.frozenAt OI.out (i * 8)
              have z1 := World.ownsRow.frozenAt OI.out (i * 8 + 1)
              have z2 := World.ownsRow.frozenAt OI.out (i * 8 + 2)
              have z3 := World.ownsRow.frozenAt OI.out (i * 8 + 3)
              have z4 := World.ownsRow.frozenAt OI.out (i * 8 + 4)
              have z5 := World.ownsRow.frozenAt OI.out (i * 8 + 5)
              have z6 := World.ownsRow.frozenAt OI.out (i * 8 + 6)
              have z7 := World.ownsRow.frozenAt OI.out (i * 8 + 7)
              rw [Nat.add_zero] at m0
              have hge := (World.ownsRow.lt OI.out g4 rfl).1
              have OS := Lib.hid ((((((((OI.out.set (i * 8) 0).set (i * 8 + 1) 0).set (i * 8 + 2) 0).set (i * 8 + 3) 0).set (i * 8 + 4) 0).set (i * 8 + 5) 0).set (i * 8 + 6) 0).set (i * 8 + 7) 0)
              have BS := Lib.hid ((((((((BI.out.setCell (p := ⟨g4, i * 8, none⟩) hge (.int .i64 0)).setCell (p := ⟨g4, i * 8 + 1, none⟩) hge (.int .i64 0)).setCell (p := ⟨g4, i * 8 + 2, none⟩) hge (.int .i64 0)).setCell (p := ⟨g4, i * 8 + 3, none⟩) hge (.int .i64 0)).setCell (p := ⟨g4, i * 8 + 4, none⟩) hge (.int .i64 0)).setCell (p := ⟨g4, i * 8 + 5, none⟩) hge (.int .i64 0)).setCell (p := ⟨g4, i * 8 + 6, none⟩) hge (.int .i64 0)).setCell (p := ⟨g4, i * 8 + 7, none⟩) hge (.int .i64 0))
              clear fx hl4
              go_wp2_with fail
              go_roundw
              case rel => exact ⟨i + 1, _, by go_num, by omega, OS.out, BS.out⟩
              case measure => (simp [intOf] <;> omega)
            · have hin2 : i = n := by omega
              have q2 : decide (i < n) = false := decide_eq_false hin
              have B3I : Hid (Below w3.heap.size w3 wr) := Lib.hid (B35.out.trans BI.out)
              have GI := Lib.hid (G3.out.below B3I.out)
              have hBO : Hid (Below wo.heap.size wo wr) := Lib.hid (B3.out.trans (B3I.out.mono B3.out.size))
              clear G3 F3 B35 BI OI
              go_wp2_with (first
                | (go_at_call 19; refine (refSameC _ _ Lx Lx n n _ O7.out (X.out.below (hBO.out.trans (B7.out.mono hBO.out.size)) (Nat.le_refl _)) (by omega) (by omega)).mono ?_; rintro e w8 ⟨rfl, b8⟩; rw [decide_eq_true (rfl : Lx = Lx)]; have B8 := Lib.hid b8; clear b8)
                | (go_at_call 20; refine (cellsY GI.out (by omega)).mono ?_; rintro e w7 ⟨A7, c7, rfl, o7, b7⟩; have O7 := Lib.hid (OwnG.cel o7); have B7 := Lib.hid b7; clear o7 b7))
              go_roundw
              case rel =>
                have h1 := B.out.trans (hBO.out.mono B.out.size)
                have h2 := h1.trans (B7.out.mono h1.size)
                exact ⟨j + 1, by go_num, by omega, h2.trans (B8.out.mono h2.size)⟩
              case measure => (simp [intOf] <;> omega)
        · have OY := Lib.hid (fun w1 (b : Below wo.heap.size wo w1) => ofN _ Lx n w1 (X.out.below b (Nat.le_refl _)) (by omega) hz)
          have CY := Lib.hid (fun w2 (b : Below wo.heap.size wo w2) => checkY _ Lx n w2 (X.out.below b (Nat.le_refl _)) (by omega))
          have RC := Lib.hid RC
          have q4 : (chkG Lx n == 0) = false := by rw [beq_eq_false_iff_ne]; exact hz
          have q5 : (chkG Lx n != 0) = true := by rw [bne, q4]; rfl
          clear hz
          generalize chkG Lx n = zc at *
          go_wp2_with (first
            | (have _z := B2; go_at_call 24; refine (CY.out _ B2.out).mono ?_; rintro e w3 ⟨rfl, b3⟩; have B3 : Hid (Below wo.heap.size wo w3) := Lib.hid (B2.out.trans (b3.mono B2.out.size)); clear b3)
            | (have _z := B1; go_at_call 23; refine (OY.out _ B1.out).mono ?_; rintro e w2 ⟨rfl, b2⟩; have B2 : Hid (Below wo.heap.size wo w2) := Lib.hid (B1.out.trans (b2.mono B1.out.size)); clear b2)
            | (go_at_call 22; refine RC.out.mono ?_; rintro e w1 ⟨rfl, b1⟩; have B1 := Lib.hid b1; clear b1))
          go_roundw
          case rel => exact ⟨j + 1, by go_num, by omega, B.out.trans (B3.out.mono B.out.size)⟩
          case measure => (simp [intOf] <;> omega)
      · have hj4 : j = 3 := by omega
        subst hj4
        have q1 : decide (3 < 3) = false := by decide
        have CL := Lib.hid (fun lv w (h : CelAt w lv L N) => refCheckG lv L N w h (by omega))
        have HL0 : Hid (chkG L N = 0) := Lib.hid (good_chk HG.out (by omega))
        go_wp2_with (first
          | (have _z := B5; go_at_call 22; refine (CL.out _ _ (OL.out.below (B.out.trans (B5.out.mono B.out.size)) (Nat.le_refl _))).mono ?_; rintro e w6 ⟨rfl, b6⟩; rw [HL0.out]; have B6 := Lib.hid b6; clear b6)
          | (go_at_call 10; refine (WK.out _).mono ?_; rintro e w5 ⟨rfl, b5⟩; have B5 := Lib.hid b5; clear b5))
        go_ret
        have h1 := BWL.out.trans (B.out.mono BWL.out.size)
        have h2 := h1.trans (B5.out.mono h1.size)
        exact ⟨rfl, h2.trans (B6.out.mono h2.size)⟩
end Go.Proofs.Ytkgknbjcllcndaa
