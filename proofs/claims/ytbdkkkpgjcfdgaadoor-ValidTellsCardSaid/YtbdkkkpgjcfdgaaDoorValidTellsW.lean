/-
  ValidTells: the walk: at all places, every shape and all cells the call answers true and turns nothing that was there. Conditions: the ways read as the program lays them.
-/
import Derived.Test.YtbdkkkpgjcfdgaaDoorVlW
import Derived.Test.YtbdkkkpgjcfdgaaDoorVlT
import Derived.Test.YtbdkkkpgjcfdgaaDoorVzF2
import Derived.Test.YtbdkkkpgjcfdgaaDoorVnM
import Derived.Test.YtbdkkkpgjcfdgaaDoorMkEight
namespace Go.Proofs.YtbdkkkpgjcfdgaaDoor
open Go.RowKit Go.Proofs.YtbdkkkpgjcfdgaaDoor.LexM Go.Proofs.YtbdkkkpgjcfdgaaDoor.ParM Go.Proofs.YtbdkkkpgjcfdgaaDoor.GrM Go.Proofs.YtbdkkkpgjcfdgaaDoor.FcM Go.Proofs.YtbdkkkpgjcfdgaaDoor.JoM Go.Proofs.YtbdkkkpgjcfdgaaDoor.NmM Go.Proofs.YtbdkkkpgjcfdgaaDoor.VdM

set_option maxHeartbeats 16000000 in
set_option maxRecDepth 100000 in
theorem tells14 {A1 A2 A3 : Option Addr} {n1 n2 n3 : Nat} (c1 c2 c3 : Nat) {D1 D2 D3 : Nat → Int} (bv : Value) (ZB : List Bool) (AX : Option Addr) (nX cX : Nat) (DX : Nat → Int × Int × Int) (AY : Option Addr) (nY cY : Nat) (DY : Nat → Int)
    (AR : Option Addr) (nR cR KR : Nat) (LR : List Int) (w : World) (h : Plane w A1 A2 A3 n1 n2 n3 D1 D2 D3) (hT : WayT w) (hB : BlsAt w bv ZB) (hD : Tri8 w AX nX DX) (hY : Byt8 w AY nY DY)
    (hR : CelAt w (.slice AR KR cR) LR KR) (hKR : KR ≤ 5) (hKc : KR ≤ cR) (hmin : min (nR : Int) 5 = (KR : Int)) :
    Calls Tryd.prog 3 #[.agg #[.slice A1 n1 c1, .slice A2 n2 c2, .slice A3 n3 c3], .agg #[bv, .slice AX nX cX, .slice AY nY cY], .slice AR nR cR] w fun e w' => e = .returned (.bool true) ∧ Below w.heap.size w w' := by
  have HP := Lib.hid h
  have HT := Lib.hid hT
  have HB := Lib.hid hB
  have HD := Lib.hid hD
  have HY := Lib.hid hY
  have HR := Lib.hid hR
  have WK := Lib.hid wakes14
  have M8 := Lib.hid (fun W hb hd hy => refMake8 bv ZB AX nX cX DX AY nY cY DY W hb hd hy)
  clear h hT hB hD hY hR
  go_enter Tryd.func3, Tryd.ntmps3
  go_upto_region 1 with (fail)
  obtain ⟨wb, hwb⟩ : ∃ W, W = ((w.alloc (.cells #[.slice A1 n1 c1, .slice A2 n2 c2, .slice A3 n3 c3] 25)).alloc (.cells #[bv, .slice AX nX cX, .slice AY nY cY] 29)) := ⟨_, rfl⟩
  have BB : Hid (Below w.heap.size w wb) := Lib.hid (by rw [hwb]; exact ((Below.refl _ _).alloc (Nat.le_refl _) _).alloc (by simp) _)
  have x0 : wb.cell? ⟨w.heap.size, 0, none⟩ = some (.slice A1 n1 c1) := by rw [hwb]; go_simp
  have x1 : wb.cell? ⟨w.heap.size, 1, none⟩ = some (.slice A2 n2 c2) := by rw [hwb]; go_simp
  have x2 : wb.cell? ⟨w.heap.size, 2, none⟩ = some (.slice A3 n3 c3) := by rw [hwb]; go_simp
  have d0 : wb.cell? ⟨w.heap.size + 1, 0, none⟩ = some bv := by rw [hwb]; go_simp
  have d1 : wb.cell? ⟨w.heap.size + 1, 1, none⟩ = some (.slice AX nX cX) := by rw [hwb]; go_simp
  have d2 : wb.cell? ⟨w.heap.size + 1, 2, none⟩ = some (.slice AY nY cY) := by rw [hwb]; go_simp
  have hgb1 : w.heap.size + 1 < wb.heap.size := by rw [hwb]; simp
  have hgb : w.heap.size < wb.heap.size := by omega
  have DC : Hid (∀ wq, Below wb.heap.size wb wq → wq.cell? ⟨w.heap.size + 1, 0, none⟩ = some bv ∧ wq.cell? ⟨w.heap.size + 1, 1, none⟩ = some (.slice AX nX cX) ∧ wq.cell? ⟨w.heap.size + 1, 2, none⟩ = some (.slice AY nY cY) ∧ w.heap.size + 1 < wq.heap.size) := Lib.hid (fun wq b =>
    ⟨(b.cell (p := ⟨_, _, none⟩) hgb1).trans d0, (b.cell (p := ⟨_, _, none⟩) hgb1).trans d1, (b.cell (p := ⟨_, _, none⟩) hgb1).trans d2, Nat.lt_of_lt_of_le hgb1 b.size⟩)
  have MK := Lib.hid (makeN 16 (by decide) c1 c2 c3 (HP.out.below BB.out))
  rw [← hwb]
  clear hwb d0 d1 d2 hgb1
  go_upto_region 2 with (go_at_call 7; refine MK.out.mono ?_; rintro e w1 ⟨N, L, A, c, pv, rfl, o1, -, hN, b1⟩; have O1 := Lib.hid (OwnG.cel o1); have C1 := Lib.hid b1; have B1 := Lib.hid (BB.out.trans (b1.mono BB.out.size)); clear o1 b1)
  clear x0 x1 x2 hgb MK HP
  obtain ⟨d0, d1, d2, hgb⟩ := DC.out w1 C1.out
  go_upto_region 3 with (go_at_call 8; refine (M8.out w1 (HB.out.below B1.out (Nat.le_refl _)) (HD.out.below B1.out) (HY.out.below B1.out)).mono ?_; rintro e w2 ⟨S1, m1, k1, S2, m2, k2, B, E, rfl, hm1, hm2, hb1, he1, hS, b2⟩; have HB2 := Lib.hid hb1.bls; have HE2 := Lib.hid he1.eds; have SM := Lib.hid hS; have HM1 := Lib.hid hm1; have HM2 := Lib.hid hm2; have C2 := Lib.hid b2; have B2 := Lib.hid (B1.out.trans (b2.mono B1.out.size)); clear hm1 hm2 hb1 he1 hS b2)
  clear d0 d1 d2 hgb DC M8 HB HD HY C1
  generalize hws : World.alloc w2 _ = ws
  have bs : Below w2.heap.size w2 ws := by rw [← hws]; exact (Below.refl _ _).alloc (Nat.le_refl _) _
  have z0 : ws.cell? ⟨w2.heap.size, 0, none⟩ = some (.slice S1 m1 k1) := by rw [← hws]; clear hws; go_simp
  have z1 : ws.cell? ⟨w2.heap.size, 1, none⟩ = some (.slice S2 m2 k2) := by rw [← hws]; clear hws; go_simp
  have hgs : w2.heap.size < ws.heap.size := by rw [← hws]; simp
  obtain ⟨ps, hps⟩ : ∃ ps, w2.heap.size = ps := ⟨_, rfl⟩
  have E2 := Lib.hid bs
  rw [hps] at z0 z1 hgs E2 ⊢
  have SC : Hid (∀ wq, Below ws.heap.size ws wq → wq.cell? ⟨ps, 0, none⟩ = some (.slice S1 m1 k1) ∧ wq.cell? ⟨ps, 1, none⟩ = some (.slice S2 m2 k2) ∧ ps < wq.heap.size) := Lib.hid (fun wq b =>
    ⟨(b.cell (p := ⟨_, _, none⟩) hgs).trans z0, (b.cell (p := ⟨_, _, none⟩) hgs).trans z1, Nat.lt_of_lt_of_le hgs b.size⟩)
  have BS : Hid (Below w.heap.size w ws) := Lib.hid (B2.out.trans (bs.mono B2.out.size))
  have ES : Hid (Below w1.heap.size w1 ws) := Lib.hid (C2.out.trans (bs.mono C2.out.size))
  have HBs := Lib.hid (HB2.out.below bs (Nat.le_refl _))
  have HEs := Lib.hid (HE2.out.below bs (Nat.le_refl _))
  have TL := Lib.hid (fun wq (b : Below w1.heap.size w1 wq) (t : WayT wq) => told14 (.slice A N c) L N wq (O1.out.below b (Nat.le_refl _)) (by omega) t)
  have TR := Lib.hid (fun wq (b : Below w.heap.size w wq) => told14 (.slice AR KR cR) LR KR wq (HR.out.below b (Nat.le_refl _)) (by omega) (HT.out.below b (Nat.le_refl _)))
  clear hws bs z0 z1 hgs hps C2 B2 HB2 HE2 E2 HR B1
  go_upto_region 5 with (first
    | (go_at_call 10; have _z := B4; refine (TR.out _ B4.out).mono ?_; rintro e w5 ⟨rfl, b5⟩; have B5 := Lib.hid (B4.out.trans (b5.mono B4.out.size)); have S5 := Lib.hid (S4.out.trans (b5.mono S4.out.size)); clear b5)
    | (go_at_call 10; have _z := B3; refine (TL.out _ (ES.out.trans (S3.out.mono ES.out.size)) (HT.out.below B3.out (Nat.le_refl _))).mono ?_; rintro e w4 ⟨rfl, b4⟩; have B4 := Lib.hid (B3.out.trans (b4.mono B3.out.size)); have S4 := Lib.hid (S3.out.trans (b4.mono S3.out.size)); clear b4)
    | (go_at_call 9; refine (WK.out _ (HT.out.below BS.out (Nat.le_refl _))).mono ?_; rintro e w3 ⟨rfl, b3⟩; have B3 := Lib.hid (BS.out.trans (b3.mono BS.out.size)); have S3 := Lib.hid b3; clear b3))
  clear TL TR WK S3 S4 B3 B4 hmin hKc
  obtain ⟨z0, z1, hgs⟩ := SC.out w5 S5.out
  have RW := refWrong (.slice S1 m1 k1) (.slice S2 m2 k2) B E w5 (HBs.out.below S5.out (Nat.le_refl _)) (HEs.out.below S5.out (Nat.le_refl _)) SM.out.may (chk_ok SM.out.may) (okEs_mayV SM.out.may)
  by_cases hz : wrN B E = 0
  · have OC := Lib.hid (fun wq (b : Below ws.heap.size ws wq) => ofCells (K := 100000) (b := 8) (m := 16) (.slice S1 m1 k1) (.slice S2 m2 k2) B E (HBs.out.below b (Nat.le_refl _)) (HEs.out.below b (Nat.le_refl _)) SM.out.may hz SM.out.vs SM.out.es (bends_small E (fun e he => (SM.out.ok e he).2)) (by decide))
    rw [hz] at RW
    have HRW := Lib.hid RW
    have hfd := normField
    clear RW hz
    go_wp2_with (first
      | (go_at_call 10; have _z := O7; refine (told14 _ _ _ _ O7.out H7.out (HT.out.below B7.out (Nat.le_refl _))).mono ?_; rintro e w8 ⟨rfl, b8⟩; have B8 := Lib.hid (B7.out.trans (b8.mono B7.out.size)); clear b8)
      | (go_at_call 12; have _z := S6; refine (OC.out _ S6.out).mono ?_; rintro e w7 ⟨⟨A7, n7, c7, f7, e7, v7, L7, rfl, o7, -, h7⟩, b7⟩; have O7 := Lib.hid o7; have H7 := Lib.hid h7; have B7 := Lib.hid (B6.out.trans (b7.mono B6.out.size)); clear o7 h7 b7)
      | (go_at_call 11; refine HRW.out.mono ?_; rintro e w6 ⟨rfl, b6⟩; have B6 := Lib.hid (B5.out.trans (b6.mono B5.out.size)); have S6 := Lib.hid (S5.out.trans (b6.mono S5.out.size)); obtain ⟨y0, y1, hgy⟩ := SC.out w6 S6.out; clear b6))
    go_ret
    exact ⟨rfl, B8.out⟩
  · obtain ⟨v, hv⟩ : ∃ v, wrN B E = v := ⟨_, rfl⟩
    rw [hv] at RW hz
    have q3 : (v == 0) = false := by rw [beq_eq_false_iff_ne]; exact hz
    have q4 : (v != 0) = true := by rw [bne, q3]; rfl
    have HRW := Lib.hid RW
    clear RW hz hv
    go_wp2_with (go_at_call 11; refine HRW.out.mono ?_; rintro e w6 ⟨rfl, b6⟩; have B6 := Lib.hid (B5.out.trans (b6.mono B5.out.size)); clear b6)
    go_ret
    exact ⟨rfl, B6.out⟩
end Go.Proofs.YtbdkkkpgjcfdgaaDoor
