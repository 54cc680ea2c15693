/-
  FaceSplits: the walk: at all places and every two bytes the call answers true and turns nothing that was there. Conditions: the ways read as the program lays them.
-/
import Derived.Test.YtkgabklponjagaaDoorFcK
import Derived.Test.YtkgabklponjagaaDoorFcI
import Derived.Test.YtkgabklponjagaaDoorFcZ
import Derived.Test.YtkgabklponjagaaDoorFzO
import Derived.Test.YtkgabklponjagaaDoorNzRb
namespace Go.Proofs.YtkgabklponjagaaDoor
open Go.RowKit Go.Proofs.YtkgabklponjagaaDoor.GrM Go.Proofs.YtkgabklponjagaaDoor.FcM

set_option maxHeartbeats 16000000 in
set_option maxRecDepth 100000 in
theorem splits12 {A1 A2 A3 : Option Addr} {n1 n2 n3 : Nat} (c1 c2 c3 : Nat) {D1 D2 D3 : Nat → Int} (u0 u1 : Nat) (w : World) (h : Plane w A1 A2 A3 n1 n2 n3 D1 D2 D3) (hT : WayT w) (h0 : u0 ≤ 255) (h1 : u1 ≤ 255) :
    Calls Tryd.prog 7 #[.agg #[.slice A1 n1 c1, .slice A2 n2 c2, .slice A3 n3 c3], .agg #[.int .u8 u0, .int .u8 u1]] w fun e w' => e = .returned (.bool true) ∧ Below w.heap.size w w' := by
  have HP := Lib.hid h
  have HT := Lib.hid hT
  have WK := Lib.hid (fun w hT => wakes12 w hT)
  clear h hT
  go_enter Tryd.func7, Tryd.ntmps7
  go_upto_region 1 with (fail)
  obtain ⟨wb, hwb⟩ : ∃ W, W = ((w.alloc (.cells #[.slice A1 n1 c1, .slice A2 n2 c2, .slice A3 n3 c3] 25)).alloc (.cells #[.int .u8 (u0 : Int), .int .u8 (u1 : Int)] 61)) := ⟨_, rfl⟩
  have BB : Hid (Below w.heap.size w wb) := Lib.hid (by rw [hwb]; exact ((Below.refl _ _).alloc (Nat.le_refl _) _).alloc (by simp) _)
  have x0 : wb.cell? ⟨w.heap.size, 0, none⟩ = some (.slice A1 n1 c1) := by rw [hwb]; go_simp
  have x1 : wb.cell? ⟨w.heap.size, 1, none⟩ = some (.slice A2 n2 c2) := by rw [hwb]; go_simp
  have x2 : wb.cell? ⟨w.heap.size, 2, none⟩ = some (.slice A3 n3 c3) := by rw [hwb]; go_simp
  have k0 : wb.cell? ⟨w.heap.size + 1, 0, none⟩ = some (.int .u8 (u0 : Int)) := by rw [hwb]; go_simp
  have k1 : wb.cell? ⟨w.heap.size + 1, 1, none⟩ = some (.int .u8 (u1 : Int)) := by rw [hwb]; go_simp
  have hgb : w.heap.size + 1 < wb.heap.size := by rw [hwb]; simp
  have KK := Lib.hid (fun wr (b : Below wb.heap.size wb wr) => And.intro ((b.cell (p := ⟨w.heap.size + 1, 0, none⟩) hgb).trans k0) ((b.cell (p := ⟨w.heap.size + 1, 1, none⟩) hgb).trans k1))
  have MK := Lib.hid (makeN 16 (by decide) c1 c2 c3 (HP.out.below BB.out))
  rw [← hwb]
  clear hwb k0 k1
  go_upto_region 2 with (go_at_call 8; refine MK.out.mono ?_; rintro e w1 ⟨N, L, A, c, pv, rfl, o1, hg, hN, b1⟩; have O1 := Lib.hid (OwnG.cel o1); have HG := Lib.hid hg; have C1 := Lib.hid b1; have B1 := Lib.hid (BB.out.trans (b1.mono BB.out.size)); clear o1 hg b1)
  obtain ⟨k0, k1⟩ := KK.out _ C1.out
  have hgw : w.heap.size + 1 < w1.heap.size := Nat.lt_of_lt_of_le hgb C1.out.size
  have cx1 : IntKind.i64.wrap (u0 : Int) = (u0 : Int) := IntWalk.i64_in _ (by omega)
  have cx2 : IntKind.i64.wrap (u1 : Int) = (u1 : Int) := IntWalk.i64_in _ (by omega)
  have EG := Lib.hid (fun w (hL : CelAt w (.slice A N c) L N) => refEdge (.slice A N c) L N u0 u1 w hL (by omega) (by omega) (by omega) HG.out)
  have TL := Lib.hid (fun w (hL : CelAt w (.slice A N c) L N) (hT : WayT w) => toldAny (.slice A N c) L N w hL (by omega) HG.out hT)
  have HT1 := Lib.hid (HT.out.below B1.out (Nat.le_refl _))
  have hlen := O1.out.1
  clear x0 x1 x2 hgb MK HP KK C1 HT
  go_upto_region 3 with (go_at_call 23; go_must (refine (EG.out _ O1.out).mono ?_; rintro e w2 ⟨hE, b2⟩; have HE := Lib.hid hE; have B2 := Lib.hid b2; clear hE b2; rcases HE.out with rfl | ⟨v, d, hv, hd, hx, rfl⟩))
  · clear HE EG TL k0 k1 cx1 cx2
    go_wp2_with (first
      | (go_at_call 11; refine (WK.out _ (HT1.out.below B3.out (Nat.le_refl _))).mono ?_; rintro e w4 ⟨rfl, b4⟩; have B4 := Lib.hid (B3.out.trans (b4.mono B3.out.size)); clear b4)
      | (go_at_call 11; refine (WK.out _ (HT1.out.below B2.out (Nat.le_refl _))).mono ?_; rintro e w3 ⟨rfl, b3⟩; have B3 := Lib.hid (B2.out.trans (b3.mono B2.out.size)); clear b3))
    go_ret
    exact ⟨rfl, B1.out.trans (B4.out.mono B1.out.size)⟩
  · clear HE EG k0 k1 cx1 cx2
    have hs := HG.out.side hv hd
    obtain ⟨x, hx2⟩ : ∃ x : Nat, nxG L v d = (x : Int) := ⟨(nxG L v d).toNat, by omega⟩
    have hxN : x < N := by omega
    obtain ⟨q, hq⟩ : ∃ q, owG L v d = q := ⟨_, rfl⟩
    have hGM : GoodG (splitG L N v d x q) (N + 1) := split_good hlen HG.out hv hxN hd hx2 hq
    have hGT : GoodG (turnG L N) N := turn_good.2 HG.out
    have E1 : Hid (((facesK L N).map (wordK L)).mergeSort (fun a b => decide (a ≤ b)) = ((facesK (splitG L N v d x q) (N + 1)).map (wordK (splitG L N v d x q))).mergeSort (fun a b => decide (a ≤ b))) := Lib.hid (sort_perm (split_told hlen HG.out hv hd hx2 hq))
    have E2 : Hid (((facesK L N).map (wordK L)).mergeSort (fun a b => decide (a ≤ b)) = ((facesK (turnG L N) N).map (wordK (turnG L N))).mergeSort (fun a b => decide (a ≤ b))) := Lib.hid (sort_perm (turn_told HG.out))
    have SP := Lib.hid (fun w (hL : CelAt w (.slice A N c) L N) => refSplit_yes (.slice A N c) L N v d x q w hL (by omega) hv hxN hd hx2 hq)
    have TU := Lib.hid (fun w (hL : CelAt w (.slice A N c) L N) => refTurned (.slice A N c) L N w hL (by omega))
    have TM := Lib.hid (fun lv w (hL : CelAt w lv (splitG L N v d x q) (N + 1)) (hT : WayT w) => toldAny lv (splitG L N v d x q) (N + 1) w hL (by omega) hGM hT)
    have TT := Lib.hid (fun lv w (hL : CelAt w lv (turnG L N) N) (hT : WayT w) => toldAny lv (turnG L N) N w hL (by omega) hGT hT)
    generalize splitG L N v d x q = M at *
    generalize turnG L N = U at *
    unfold ToldP at TL TM TT
    generalize List.mergeSort ((facesK L N).map (wordK L)) (fun a b => decide (a ≤ b)) = s0 at *
    generalize List.mergeSort ((facesK M (N + 1)).map (wordK M)) (fun a b => decide (a ≤ b)) = s1 at *
    generalize List.mergeSort ((facesK U N).map (wordK U)) (fun a b => decide (a ≤ b)) = s2 at *
    clear hs hGM hGT hx hx2 hq hlen
    go_upto_region 5 with (go_at_call 11; go_must (refine (WK.out _ (HT1.out.below B2.out (Nat.le_refl _))).mono ?_; rintro e w3 ⟨rfl, b3⟩; have B3 := Lib.hid (B2.out.trans (b3.mono B2.out.size)); clear b3))
    go_upto_region 6 with (go_at_call 24; go_must (refine (SP.out _ (O1.out.below B3.out (Nat.le_refl _))).mono ?_; rintro e w4 ⟨⟨A4, c4, rfl, o4⟩, b4⟩; have O4 := Lib.hid (OwnG.cel o4); have B4 := Lib.hid (B3.out.trans (b4.mono B3.out.size)); clear o4 b4))
    have e1 := E1.out
    have e2 := E2.out
    subst e1 e2
    clear E1 E2 SP HG B2 B3
    go_wp2_with (first
      | (go_at_call 25; refine (equalS _ _ _ _ _ _ _ _ _ Q8.out S10.out M8.out M10.out).mono ?_; rintro e w11 ⟨rfl, b11⟩; rw [decide_eq_true (rfl : s0 = s0)]; have B11 := Lib.hid (B10.out.trans (b11.mono B10.out.size)); clear b11)
      | (go_at_call 26; refine (TT.out _ _ T9.out (HT1.out.below B9.out (Nat.le_refl _))).mono ?_; rintro e w10 ⟨v10, m10, rfl, hm10, o10, b10⟩; have M10 := Lib.hid hm10; have S10 := Lib.hid o10; have Q8 := Lib.hid (R8.out.below b10 (Nat.le_refl _)); have B10 := Lib.hid (B9.out.trans (b10.mono B9.out.size)); clear hm10 o10 b10)
      | (go_at_call 27; refine (TU.out _ (O1.out.below B8.out (Nat.le_refl _))).mono ?_; rintro e w9 ⟨⟨A9, c9, rfl, o9⟩, b9⟩; have T9 := Lib.hid (OwnG.cel o9); have R8 := Lib.hid (S8.out.below b9 (Nat.le_refl _)); have B9 := Lib.hid (B8.out.trans (b9.mono B8.out.size)); clear o9 b9)
      | (go_at_call 26; refine (TL.out _ (O1.out.below B7.out (Nat.le_refl _)) (HT1.out.below B7.out (Nat.le_refl _))).mono ?_; rintro e w8 ⟨v8, m8, rfl, hm8, o8, b8⟩; have M8 := Lib.hid hm8; have S8 := Lib.hid o8; have B8 := Lib.hid (B7.out.trans (b8.mono B7.out.size)); clear hm8 o8 b8)
      | (go_at_call 25; refine (equalS _ _ _ _ _ _ _ _ _ R5.out S6.out M5.out M6.out).mono ?_; rintro e w7 ⟨rfl, b7⟩; rw [decide_eq_true (rfl : s0 = s0)]; have B7 := Lib.hid (B6.out.trans (b7.mono B6.out.size)); clear b7)
      | (go_at_call 26; refine (TM.out _ _ P4.out (HT1.out.below B5.out (Nat.le_refl _))).mono ?_; rintro e w6 ⟨v6, m6, rfl, hm6, o6, b6⟩; have M6 := Lib.hid hm6; have S6 := Lib.hid o6; have R5 := Lib.hid (S5.out.below b6 (Nat.le_refl _)); have B6 := Lib.hid (B5.out.trans (b6.mono B5.out.size)); clear hm6 o6 b6)
      | (go_at_call 26; refine (TL.out _ (O1.out.below B4.out (Nat.le_refl _)) (HT1.out.below B4.out (Nat.le_refl _))).mono ?_; rintro e w5 ⟨v5, m5, rfl, hm5, o5, b5⟩; have M5 := Lib.hid hm5; have S5 := Lib.hid o5; have P4 := Lib.hid (O4.out.below b5 (Nat.le_refl _)); have B5 := Lib.hid (B4.out.trans (b5.mono B4.out.size)); clear hm5 o5 b5))
    go_ret
    exact ⟨rfl, B1.out.trans (B11.out.mono B1.out.size)⟩
end Go.Proofs.YtkgabklponjagaaDoor
