/-
  ValidEuler: the walk: at all places and every shape the call answers true and turns nothing that was there. Conditions: the ways read as the program lays them.
-/
import Derived.Test.YtbdkkkpgjcfdgaaDoorVlW
import Derived.Test.YtbdkkkpgjcfdgaaDoorVlR
import Derived.Test.YtbdkkkpgjcfdgaaDoorVzF2
import Derived.Test.YtbdkkkpgjcfdgaaDoorVnM
import Derived.Test.YtbdkkkpgjcfdgaaDoorMkEight
import Derived.Deep.CutRange
import Derived.Deep.CutBlock
namespace Go.Proofs.YtbdkkkpgjcfdgaaDoor
open Go.RowKit Go.Proofs.YtbdkkkpgjcfdgaaDoor.LexM Go.Proofs.YtbdkkkpgjcfdgaaDoor.ParM Go.Proofs.YtbdkkkpgjcfdgaaDoor.GrM Go.Proofs.YtbdkkkpgjcfdgaaDoor.FcM Go.Proofs.YtbdkkkpgjcfdgaaDoor.JoM Go.Proofs.YtbdkkkpgjcfdgaaDoor.NmM Go.Proofs.YtbdkkkpgjcfdgaaDoor.VdM

/-- Cells, to be read. -/
def LvE (w0 : World) (lv : Value) (wr : World) : Prop := ∃ A n c L, lv = .slice A n c ∧ CelAt wr (.slice A n c) L n ∧ n ≤ 100000 ∧ Below w0.heap.size w0 wr
def DaO (L : List Int) (n : Nat) (w0 wr : World) (dv iv : Value) : Prop := ∃ k : Nat, iv = .int .i64 k ∧ k ≤ n ∧ dv = .int .i64 ((dartsT L (4 * k)).length : Nat) ∧ Below w0.heap.size w0 wr
def DaI (L : List Int) (k : Nat) (w0 wr : World) (dv iv : Value) : Prop := ∃ d : Nat, iv = .int .i64 d ∧ d ≤ 4 ∧ dv = .int .i64 ((dartsT L (4 * k + d)).length : Nat) ∧ wr = w0
theorem darts_lenE (L : List Int) (j : Nat) : (dartsT L j).length ≤ j := Nat.le_trans (List.length_filter_le _ _) (by simp)
theorem darts_in {L : List Int} {j : Nat} (h : nxK L j ≠ -1) : (dartsT L (j + 1)).length = (dartsT L j).length + 1 := by
  rw [darts_more, if_pos (by unfold isB; exact decide_eq_true h), List.length_append]; rfl
theorem darts_out {L : List Int} {j : Nat} (h : nxK L j = -1) : (dartsT L (j + 1)).length = (dartsT L j).length := by
  rw [darts_more, if_neg (by unfold isB; simpa using h)]
theorem ixE0 (x0 x1 x2 x3 : Value) (w : World) : (Instr.index 52 (.agg #[x0, x1, x2, x3]) (.int .i64 0)).run Tryd.prog w = .ok x0 w := by kernel_rfl
theorem ixE1 (x0 x1 x2 x3 : Value) (w : World) : (Instr.index 52 (.agg #[x0, x1, x2, x3]) (.int .i64 1)).run Tryd.prog w = .ok x1 w := by kernel_rfl
theorem ixE2 (x0 x1 x2 x3 : Value) (w : World) : (Instr.index 52 (.agg #[x0, x1, x2, x3]) (.int .i64 2)).run Tryd.prog w = .ok x2 w := by kernel_rfl
theorem ixE3 (x0 x1 x2 x3 : Value) (w : World) : (Instr.index 52 (.agg #[x0, x1, x2, x3]) (.int .i64 3)).run Tryd.prog w = .ok x3 w := by kernel_rfl
set_option maxHeartbeats 16000000 in
set_option maxRecDepth 100000 in
theorem euler14 {A1 A2 A3 : Option Addr} {n1 n2 n3 : Nat} (c1 c2 c3 : Nat) {D1 D2 D3 : Nat → Int} (bv : Value) (ZB : List Bool) (AX : Option Addr) (nX cX : Nat) (DX : Nat → Int × Int × Int) (AY : Option Addr) (nY cY : Nat) (DY : Nat → Int)
    (w : World) (h : Plane w A1 A2 A3 n1 n2 n3 D1 D2 D3) (hT : WayT w) (hB : BlsAt w bv ZB) (hD : Tri8 w AX nX DX) (hY : Byt8 w AY nY DY) :
    Calls Tryd.prog 5 #[.agg #[.slice A1 n1 c1, .slice A2 n2 c2, .slice A3 n3 c3], .agg #[bv, .slice AX nX cX, .slice AY nY cY]] w fun e w' => e = .returned (.bool true) ∧ Below w.heap.size w w' := by
  have HP := Lib.hid h
  have HT := Lib.hid hT
  have HB := Lib.hid hB
  have HD := Lib.hid hD
  have HY := Lib.hid hY
  have WK := Lib.hid wakes14
  have M8 := Lib.hid (fun W hb hd hy => refMake8 bv ZB AX nX cX DX AY nY cY DY W hb hd hy)
  clear h hT hB hD hY
  go_enter Tryd.func5, Tryd.ntmps5
  go_upto_region 1 with (fail)
  obtain ⟨wb, hwb⟩ : ∃ W, W = ((w.alloc (.cells #[.slice A1 n1 c1, .slice A2 n2 c2, .slice A3 n3 c3] 25)).alloc (.cells #[bv, .slice AX nX cX, .slice AY nY cY] 29)) := ⟨_, rfl⟩
  have BB : Hid (Below w.heap.size w wb) := Lib.hid (by rw [hwb]; exact ((Below.refl _ _).alloc (Nat.le_refl _) _).alloc (by simp) _)
  have x0 : wb.cell? ⟨w.heap.size, 0, none⟩ = some (.slice A1 n1 c1) := by rw [hwb]; go_simp
  have x1 : wb.cell? ⟨w.heap.size, 1, none⟩ = some (.slice A2 n2 c2) := by rw [hwb]; go_simp
  have x2 : wb.cell? ⟨w.heap.size, 2, none⟩ = some (.slice A3 n3 c3) := by rw [hwb]; go_simp
  have d0 : wb.cell? ⟨w.heap.size + 1, 0, none⟩ = some bv := by rw [hwb]; go_simp
  have d1 : wb.cell? ⟨w.heap.size + 1, 1, none⟩ = some (.slice AX nX cX) := by rw [hwb]; go_simp
  have d2 : wb.cell? ⟨w.heap.size + 1, 2, none⟩ = some (.slice AY nY cY) := by rw [hwb]; go_simp
  have hgb1 : w.heap.size + 1 < wb.heap.size := by rw [hwb]; simp
  have hgb : w.heap.size < wb.heap.size := by omega
  have DC : Hid (∀ wq, Below wb.heap.size wb wq → wq.cell? ⟨w.heap.size + 1, 0, none⟩ = some bv ∧ wq.cell? ⟨w.heap.size + 1, 1, none⟩ = some (.slice AX nX cX) ∧ wq.cell? ⟨w.heap.size + 1, 2, none⟩ = some (.slice AY nY cY) ∧ w.heap.size + 1 < wq.heap.size) := Lib.hid (fun wq b =>
    ⟨(b.cell (p := ⟨_, _, none⟩) hgb1).trans d0, (b.cell (p := ⟨_, _, none⟩) hgb1).trans d1, (b.cell (p := ⟨_, _, none⟩) hgb1).trans d2, Nat.lt_of_lt_of_le hgb1 b.size⟩)
  have MK := Lib.hid (makeN 16 (by decide) c1 c2 c3 (HP.out.below BB.out))
  rw [← hwb]
  clear hwb d0 d1 d2 hgb1
  go_upto_region 2 with (go_at_call 7; refine MK.out.mono ?_; rintro e w1 ⟨N, L, A, c, pv, rfl, o1, -, hN, b1⟩; have O1 := Lib.hid (OwnG.cel o1); have C1 := Lib.hid b1; have B1 := Lib.hid (BB.out.trans (b1.mono BB.out.size)); clear o1 b1)
  clear x0 x1 x2 hgb MK HP
  obtain ⟨d0, d1, d2, hgb⟩ := DC.out w1 C1.out
  go_upto_region 3 with (go_at_call 8; refine (M8.out w1 (HB.out.below B1.out (Nat.le_refl _)) (HD.out.below B1.out) (HY.out.below B1.out)).mono ?_; rintro e w2 ⟨S1, m1, k1, S2, m2, k2, B, E, rfl, hm1, hm2, hb1, he1, hS, b2⟩; have HB2 := Lib.hid hb1.bls; have HE2 := Lib.hid he1.eds; have SM := Lib.hid hS; have HM1 := Lib.hid hm1; have HM2 := Lib.hid hm2; have C2 := Lib.hid b2; have B2 := Lib.hid (B1.out.trans (b2.mono B1.out.size)); clear hm1 hm2 hb1 he1 hS b2)
  clear d0 d1 d2 hgb DC M8 HB HD HY C1
  generalize hws : World.alloc w2 _ = ws
  have bs : Below w2.heap.size w2 ws := by rw [← hws]; exact (Below.refl _ _).alloc (Nat.le_refl _) _
  have z0 : ws.cell? ⟨w2.heap.size, 0, none⟩ = some (.slice S1 m1 k1) := by rw [← hws]; clear hws; go_simp
  have z1 : ws.cell? ⟨w2.heap.size, 1, none⟩ = some (.slice S2 m2 k2) := by rw [← hws]; clear hws; go_simp
  have hgs : w2.heap.size < ws.heap.size := by rw [← hws]; simp
  obtain ⟨ps, hps⟩ : ∃ ps, w2.heap.size = ps := ⟨_, rfl⟩
  have E2 := Lib.hid bs
  rw [hps] at z0 z1 hgs E2 ⊢
  have SC : Hid (∀ wq, Below ws.heap.size ws wq → wq.cell? ⟨ps, 0, none⟩ = some (.slice S1 m1 k1) ∧ wq.cell? ⟨ps, 1, none⟩ = some (.slice S2 m2 k2) ∧ ps < wq.heap.size) := Lib.hid (fun wq b =>
    ⟨(b.cell (p := ⟨_, _, none⟩) hgs).trans z0, (b.cell (p := ⟨_, _, none⟩) hgs).trans z1, Nat.lt_of_lt_of_le hgs b.size⟩)
  have BS : Hid (Below w.heap.size w ws) := Lib.hid (B2.out.trans (bs.mono B2.out.size))
  have ES : Hid (Below w1.heap.size w1 ws) := Lib.hid (C2.out.trans (bs.mono C2.out.size))
  have HBs := Lib.hid (HB2.out.below bs (Nat.le_refl _))
  have HEs := Lib.hid (HE2.out.below bs (Nat.le_refl _))
  clear hws bs hps C2 B2 HB2 HE2 E2 B1
  have RW := refWrong (.slice S1 m1 k1) (.slice S2 m2 k2) B E ws HBs.out HEs.out SM.out.may (chk_ok SM.out.may) (okEs_mayV SM.out.may)
  obtain ⟨v, hv⟩ : ∃ v, wrN B E = v := ⟨_, rfl⟩
  rw [hv] at RW
  have HRW := Lib.hid RW
  have HV := Lib.hid hv
  clear RW hv
  go_upto_if 23 with (go_at_call 11; refine HRW.out.mono ?_; rintro e w6 ⟨rfl, b6⟩; have S6 := Lib.hid b6; obtain ⟨y0, y1, hgy⟩ := SC.out w6 b6; clear b6)
  clear z0 z1 hgs HRW
  go_cut [5] from 23 to 30 (fun lv wx => LvE ws lv wx)
  case first =>
    by_cases hz : v = 0
    · subst hz
      have OC := Lib.hid (ofCells (w := w6) (K := 100000) (b := 8) (m := 16) (.slice S1 m1 k1) (.slice S2 m2 k2) B E (HBs.out.below S6.out (Nat.le_refl _)) (HEs.out.below S6.out (Nat.le_refl _)) SM.out.may HV.out SM.out.vs SM.out.es (bends_small E (fun e he => (SM.out.ok e he).2)) (by decide))
      have hfd := normField
      go_upto_region 5 with (go_at_call 12; refine OC.out.mono ?_; rintro e w7 ⟨⟨A7, n7, c7, f7, e7, v7, L7, rfl, o7, -, h7⟩, b7⟩; have O7 := Lib.hid o7; have H7 := Lib.hid h7; have S7 := Lib.hid (S6.out.trans (b7.mono S6.out.size)); clear o7 h7 b7)
      have CK := check_ (.slice A7 n7 c7) L7 n7 w7 O7.out H7.out (HT.out.below (BS.out.trans (S7.out.mono BS.out.size)) (Nat.le_refl _))
      clear hfd y0 y1 hgy
      by_cases hv : vldE L7 n7 = 0
      · rw [hv] at CK
        have HCK := Lib.hid CK
        clear CK hv
        go_wp2_with (go_at_call 14; refine HCK.out.mono ?_; rintro e w8 ⟨rfl, b8⟩; have B8 := Lib.hid b8; clear b8)
        go_meet
        exact ⟨A7, n7, c7, L7, rfl, O7.out.below B8.out (Nat.le_refl _), H7.out, S7.out.trans (B8.out.mono S7.out.size)⟩
      · obtain ⟨v, hv2⟩ : ∃ v, vldE L7 n7 = v := ⟨_, rfl⟩
        rw [hv2] at CK hv
        have q3 : (v == 0) = false := by rw [beq_eq_false_iff_ne]; exact hv
        have HCK := Lib.hid CK
        clear CK hv hv2
        go_wp2_with (go_at_call 14; refine HCK.out.mono ?_; rintro e w8 ⟨rfl, b8⟩; have B8 := Lib.hid b8; clear b8)
        go_meet
        have bq := S7.out.trans (B8.out.mono S7.out.size)
        exact ⟨A, N, c, L, rfl, O1.out.below (ES.out.trans (bq.mono ES.out.size)) (Nat.le_refl _), by omega, bq⟩
    · have q3 : (v == 0) = false := by rw [beq_eq_false_iff_ne]; exact hz
      clear hz
      go_wp2_with fail
      go_meet
      exact ⟨A, N, c, L, rfl, O1.out.below (ES.out.trans (S6.out.mono ES.out.size)) (Nat.le_refl _), by omega, S6.out⟩
  case rest =>
    obtain ⟨AQ, nQ, cQ, LQ, rfl, hcQ, hnQ, hbQ⟩ := hcut
    obtain ⟨wz, hwz⟩ : ∃ W, W = wc := ⟨_, rfl⟩
    subst hwz
    have HC := Lib.hid hcQ
    have BZ := Lib.hid (BS.out.trans (hbQ.mono BS.out.size))
    clear hcQ hbQ BS ES O1 HBs HEs SC SM HM1 HM2 S6 HV
    clear y0 y1 hgy
    have CK := check_ (.slice AQ nQ cQ) LQ nQ wz HC.out hnQ (HT.out.below BZ.out (Nat.le_refl _))
    by_cases hv : vldE LQ nQ = 0
    · rw [hv] at CK
      have HCK := Lib.hid CK
      clear CK
      by_cases h2 : nQ < 2
      · have q1 : decide (nQ < 2) = true := decide_eq_true h2
        have q2 : decide ((nQ : Int) < 2) = true := decide_eq_true (by omega)
        clear hv h2
        go_wp2_with (first
          | (go_at_call 9; refine (WK.out _ (HT.out.below B3.out (Nat.le_refl _))).mono ?_; rintro e w4 ⟨rfl, b4⟩; have B4 := Lib.hid (B3.out.trans (b4.mono B3.out.size)); clear b4)
          | (go_at_call 14; refine HCK.out.mono ?_; rintro e w3 ⟨rfl, b3⟩; have B3 := Lib.hid (BZ.out.trans (b3.mono BZ.out.size)); clear b3))
        go_ret
        exact ⟨rfl, B4.out⟩
      · have q1 : decide (nQ < 2) = false := decide_eq_false h2
        have q2 : decide ((nQ : Int) < 2) = false := decide_eq_false (by omega)
        have hg0 : chkG LQ nQ = 0 := Decidable.byContradiction fun q => q ((vld_bad q).symm.trans hv)
        have H0 := Lib.hid hg0
        obtain ⟨eh, he1, he2⟩ := vld_euler hg0 hv (by omega)
        have EU := Lib.hid (And.intro he1 he2)
        have hn4 := (chk_good.1 hg0).1
        have HG := Lib.hid (chk_good.1 hg0).2
        clear he1 he2 hv h2 hg0
        go_upto_region 9 with (go_at_call 14; refine HCK.out.mono ?_; rintro e w3 ⟨rfl, b3⟩; have B3 := Lib.hid (BZ.out.trans (b3.mono BZ.out.size)); have C3 := Lib.hid (HC.out.below b3 (Nat.le_refl _)); clear b3)
        clear HCK HC BZ
        go_wp2_with fail
        go_loopw [9, 42] (fun dv iv wr => DaO LQ nQ w3 wr dv iv) (fun _ iv _ => nQ - (intOf iv).toNat)
        case atStart => exact ⟨0, rfl, Nat.zero_le _, rfl, Below.refl _ _⟩
        case round =>
          obtain ⟨k, rfl, hk, rfl, hB⟩ := hrel
          have B := Lib.hid hB
          have hdl := darts_lenE LQ (4 * k)
          by_cases hlt : k < nQ
          · have q0 : decide (k < nQ) = true := decide_eq_true hlt
            obtain ⟨b, o9, c', e, hb, hx, hy⟩ := (C3.out.below hB (Nat.le_refl _)).nth hlt
            simp only [Value.slice.injEq, true_and] at e
            obtain ⟨rfl, rfl⟩ := e
            have f0 : wr.cell? ⟨b, o9 + k * 8, none⟩ = some (.int .i64 (nxG LQ k 0)) := hx 0 (by decide)
            have f1 := hx 1 (by decide)
            have f2 := hx 2 (by decide)
            have f3 := hx 3 (by decide)
            have f4 : wr.cell? ⟨b, o9 + k * 8 + 4, none⟩ = some (.int .i64 (owG LQ k 0)) := hy 0 (by decide)
            have f5 : wr.cell? ⟨b, o9 + k * 8 + 5, none⟩ = some (.int .i64 (owG LQ k 1)) := hy 1 (by decide)
            have f6 : wr.cell? ⟨b, o9 + k * 8 + 6, none⟩ = some (.int .i64 (owG LQ k 2)) := hy 2 (by decide)
            have f7 : wr.cell? ⟨b, o9 + k * 8 + 7, none⟩ = some (.int .i64 (owG LQ k 3)) := hy 3 (by decide)
            have DK : Hid (∀ d, d < 4 → nxK LQ (4 * k + d) = nxG LQ k d) := Lib.hid (fun d hd => by unfold nxK; rw [show (4 * k + d) / 4 = k by omega, show (4 * k + d) % 4 = d by omega])
            have SD : Hid (∀ d, d < 4 → nxG LQ k d = -1 ∨ 0 ≤ nxG LQ k d) := Lib.hid (fun d hd => by
              rcases HG.out.side hlt hd with q | ⟨q, _⟩
              · exact Or.inl q.1
              · exact Or.inr (by omega))
            obtain ⟨x0, hx0⟩ : ∃ x, nxG LQ k 0 = x := ⟨_, rfl⟩
            obtain ⟨x1, hx1⟩ : ∃ x, nxG LQ k 1 = x := ⟨_, rfl⟩
            obtain ⟨x2, hx2⟩ : ∃ x, nxG LQ k 2 = x := ⟨_, rfl⟩
            obtain ⟨x3, hx3⟩ : ∃ x, nxG LQ k 3 = x := ⟨_, rfl⟩
            rw [hx0] at f0
            rw [hx1] at f1
            rw [hx2] at f2
            rw [hx3] at f3
            have XE := Lib.hid (And.intro hx0 (And.intro hx1 (And.intro hx2 hx3)))
            clear hx hy hB hx0 hx1 hx2 hx3
            go_wp2_with fail
            generalize hwn : World.alloc wr _ = wn
            have bn : Below wr.heap.size wr wn := by rw [← hwn]; exact (Below.refl _ _).alloc (Nat.le_refl _) _
            have BN := Lib.hid (B.out.trans (bn.mono B.out.size))
            clear f0 f1 f2 f3 f4 f5 f6 f7 bn hwn
            go_loopw [9, 48] (fun dv iv wq => DaI LQ k wn wq dv iv) (fun _ iv _ => 4 - (intOf iv).toNat)
            case atStart => exact ⟨0, rfl, Nat.zero_le _, rfl, rfl⟩
            case round =>
              obtain ⟨d, rfl, hd, rfl, hw⟩ := hrel
              have hw2 : wn = wr := hw.symm
              clear hw
              subst hw2
              have hdl2 := darts_lenE LQ (4 * k + d)
              rcases (by omega : d = 0 ∨ d = 1 ∨ d = 2 ∨ d = 3 ∨ d = 4) with rfl | rfl | rfl | rfl | rfl
              · have hix := ixE0
                have hs := SD.out 0 (by decide)
                have hk2 := DK.out 0 (by decide)
                rw [XE.out.1] at hs hk2
                by_cases hx : x0 = -1
                · have hm := darts_out (hk2.trans hx)
                  subst hx
                  have E1 := Lib.hid hm
                  clear hs hk2 hm
                  go_wp2_with fail
                  go_roundw
                  case rel => exact ⟨1, by go_num, by decide, by rw [show 4 * k + 1 = 4 * k + 0 + 1 by omega, E1.out], rfl⟩
                  case measure => (simp [intOf] <;> omega)
                · have hm := darts_in (fun q => hx (hk2.symm.trans q))
                  have q1 : decide (0 ≤ x0) = true := decide_eq_true (by omega)
                  have E1 := Lib.hid hm
                  clear hs hk2 hm hx
                  go_wp2_with fail
                  go_roundw
                  case rel => exact ⟨1, by go_num, by decide, by rw [show 4 * k + 1 = 4 * k + 0 + 1 by omega, E1.out]; (try go_num), rfl⟩
                  case measure => (simp [intOf] <;> omega)
              · have hix := ixE1
                have hs := SD.out 1 (by decide)
                have hk2 := DK.out 1 (by decide)
                rw [XE.out.2.1] at hs hk2
                by_cases hx : x1 = -1
                · have hm := darts_out (hk2.trans hx)
                  subst hx
                  have E1 := Lib.hid hm
                  clear hs hk2 hm
                  go_wp2_with fail
                  go_roundw
                  case rel => exact ⟨2, by go_num, by decide, by rw [show 4 * k + 2 = 4 * k + 1 + 1 by omega, E1.out], rfl⟩
                  case measure => (simp [intOf] <;> omega)
                · have hm := darts_in (fun q => hx (hk2.symm.trans q))
                  have q1 : decide (0 ≤ x1) = true := decide_eq_true (by omega)
                  have E1 := Lib.hid hm
                  clear hs hk2 hm hx
                  go_wp2_with fail
                  go_roundw
                  case rel => exact ⟨2, by go_num, by decide, by rw [show 4 * k + 2 = 4 * k + 1 + 1 by omega, E1.out]; (try go_num), rfl⟩
                  case measure => (simp [intOf] <;> omega)
              · have hix := ixE2
                have hs := SD.out 2 (by decide)
                have hk2 := DK.out 2 (by decide)
                rw [XE.out.2.2.1] at hs hk2
                by_cases hx : x2 = -1
                · have hm := darts_out (hk2.trans hx)
                  subst hx
                  have E1 := Lib.hid hm
                  clear hs hk2 hm
                  go_wp2_with fail
                  go_roundw
                  case rel => exact ⟨3, by go_num, by decide, by rw [show 4 * k + 3 = 4 * k + 2 + 1 by omega, E1.out], rfl⟩
                  case measure => (simp [intOf] <;> omega)
                · have hm := darts_in (fun q => hx (hk2.symm.trans q))
                  have q1 : decide (0 ≤ x2) = true := decide_eq_true (by omega)
                  have E1 := Lib.hid hm
                  clear hs hk2 hm hx
                  go_wp2_with fail
                  go_roundw
                  case rel => exact ⟨3, by go_num, by decide, by rw [show 4 * k + 3 = 4 * k + 2 + 1 by omega, E1.out]; (try go_num), rfl⟩
                  case measure => (simp [intOf] <;> omega)
              · have hix := ixE3
                have hs := SD.out 3 (by decide)
                have hk2 := DK.out 3 (by decide)
                rw [XE.out.2.2.2] at hs hk2
                by_cases hx : x3 = -1
                · have hm := darts_out (hk2.trans hx)
                  subst hx
                  have E1 := Lib.hid hm
                  clear hs hk2 hm
                  go_wp2_with fail
                  go_roundw
                  case rel => exact ⟨4, by go_num, by decide, by rw [show 4 * k + 4 = 4 * k + 3 + 1 by omega, E1.out], rfl⟩
                  case measure => (simp [intOf] <;> omega)
                · have hm := darts_in (fun q => hx (hk2.symm.trans q))
                  have q1 : decide (0 ≤ x3) = true := decide_eq_true (by omega)
                  have E1 := Lib.hid hm
                  clear hs hk2 hm hx
                  go_wp2_with fail
                  go_roundw
                  case rel => exact ⟨4, by go_num, by decide, by rw [show 4 * k + 4 = 4 * k + 3 + 1 by omega, E1.out]; (try go_num), rfl⟩
                  case measure => (simp [intOf] <;> omega)
              · go_wp2_with fail
                go_roundw
                case rel => exact ⟨k + 1, by go_num, by omega, rfl, BN.out⟩
                case measure => (simp [intOf] <;> omega)
          · have hkn : k = nQ := by omega
            have q0 : decide (k < nQ) = false := decide_eq_false hlt
            rw [hkn, EU.out.1]
            have RF := refFaces (.slice AQ nQ cQ) LQ nQ
            have EU2 := EU.out.2
            unfold RefFacesP at RF
            obtain ⟨f, hf⟩ : ∃ f, (facesK LQ nQ).length = f := ⟨_, rfl⟩
            rw [hf] at RF EU2
            have HRF := Lib.hid (fun wq (b : Below w3.heap.size w3 wq) => RF wq (C3.out.below b (Nat.le_refl _)) hnQ HG.out)
            have hh : ((2 * eh : Nat) : Int) / 2 = (eh : Int) := by omega
            have q5 : ((f : Int) + (nQ : Int) == (eh : Int) + 2) = true := by rw [beq_iff_eq]; omega
            have hfb : f ≤ 100000000 ∧ eh ≤ 100000000 := by
              have := darts_lenE LQ (4 * nQ)
              rw [EU.out.1] at this
              omega
            obtain ⟨hfb, heb⟩ := hfb
            clear RF hf hB hdl
            go_wp2_with (first
              | (go_at_call 15; have _z := B4; refine (HRF.out _ B4.out).mono ?_; rintro e w5 ⟨A5, c5, rfl, -, b5⟩; have B5 := Lib.hid (B4.out.trans (b5.mono B4.out.size)); clear b5)
              | (go_at_call 9; refine (WK.out _ (HT.out.below (B3.out.trans (B.out.mono B3.out.size)) (Nat.le_refl _))).mono ?_; rintro e w4 ⟨rfl, b4⟩; have B4 := Lib.hid (B.out.trans (b4.mono B.out.size)); clear b4))
            go_ret
            exact ⟨rfl, B3.out.trans (B5.out.mono B3.out.size)⟩
    · obtain ⟨v, hv2⟩ : ∃ v, vldE LQ nQ = v := ⟨_, rfl⟩
      rw [hv2] at CK hv
      have q3 : (v == 0) = false := by rw [beq_eq_false_iff_ne]; exact hv
      have q4 : (v != 0) = true := by rw [bne, q3]; rfl
      have HCK := Lib.hid CK
      clear CK hv hv2
      go_wp2_with (first
        | (go_at_call 9; refine (WK.out _ (HT.out.below B3.out (Nat.le_refl _))).mono ?_; rintro e w4 ⟨rfl, b4⟩; have B4 := Lib.hid (B3.out.trans (b4.mono B3.out.size)); clear b4)
        | (go_at_call 14; refine HCK.out.mono ?_; rintro e w3 ⟨rfl, b3⟩; have B3 := Lib.hid (BZ.out.trans (b3.mono BZ.out.size)); clear b3))
      go_ret
      exact ⟨rfl, B4.out⟩
end Go.Proofs.YtbdkkkpgjcfdgaaDoor
