/-
  ValidPlane: the walk: at all places the call answers true and turns nothing that was there. Conditions: the ways read as the program lays them.
-/
import Derived.Test.YtbdkkkpgjcfdgaaDoorVlW
import Derived.Test.YtbdkkkpgjcfdgaaDoorVzM
namespace Go.Proofs.YtbdkkkpgjcfdgaaDoor
open Go.RowKit Go.Proofs.YtbdkkkpgjcfdgaaDoor.GrM Go.Proofs.YtbdkkkpgjcfdgaaDoor.FcM Go.Proofs.YtbdkkkpgjcfdgaaDoor.JoM Go.Proofs.YtbdkkkpgjcfdgaaDoor.VdM

set_option maxHeartbeats 16000000 in
set_option maxRecDepth 100000 in
theorem plane14 {A1 A2 A3 : Option Addr} {n1 n2 n3 : Nat} (c1 c2 c3 : Nat) {D1 D2 D3 : Nat → Int} (w : World) (h : Plane w A1 A2 A3 n1 n2 n3 D1 D2 D3) (hT : WayT w) :
    Calls Tryd.prog 4 #[.agg #[.slice A1 n1 c1, .slice A2 n2 c2, .slice A3 n3 c3]] w fun e w' => e = .returned (.bool true) ∧ Below w.heap.size w w' := by
  have HP := Lib.hid h
  have HT := Lib.hid hT
  have WK := Lib.hid wakes14
  clear h hT
  go_enter Tryd.func4, Tryd.ntmps4
  go_upto_region 1 with (fail)
  obtain ⟨wb, hwb⟩ : ∃ W, W = (w.alloc (.cells #[.slice A1 n1 c1, .slice A2 n2 c2, .slice A3 n3 c3] 25)) := ⟨_, rfl⟩
  have BB : Hid (Below w.heap.size w wb) := Lib.hid (by rw [hwb]; exact (Below.refl _ _).alloc (Nat.le_refl _) _)
  have x0 : wb.cell? ⟨w.heap.size, 0, none⟩ = some (.slice A1 n1 c1) := by rw [hwb]; go_simp
  have x1 : wb.cell? ⟨w.heap.size, 1, none⟩ = some (.slice A2 n2 c2) := by rw [hwb]; go_simp
  have x2 : wb.cell? ⟨w.heap.size, 2, none⟩ = some (.slice A3 n3 c3) := by rw [hwb]; go_simp
  have hgb : w.heap.size < wb.heap.size := by rw [hwb]; simp
  have MK := Lib.hid (makeX 20 (by decide) c1 c2 c3 (HP.out.below BB.out))
  rw [← hwb]
  clear hwb
  go_upto_region 2 with (go_at_call 7; refine MK.out.mono ?_; rintro e w1 ⟨P, L, A, c, N, pv, rfl, hPN, o1, hob, hN, b1⟩; have O1 := Lib.hid (OwnG.cel o1); have HO := Lib.hid hob; have HPN := Lib.hid hPN; have B1 := Lib.hid (BB.out.trans (b1.mono BB.out.size)); clear o1 hob hPN b1)
  clear x0 x1 x2 hgb MK HP BB
  have hg : GoodG L N := by have := HO.out.good; rwa [HPN.out] at this
  have RP := refParts (.slice A N c) L N w1 O1.out (by omega) hg
  unfold RPartsP at RP
  have CK := fun wq (b : Below w1.heap.size w1 wq) (hT : WayT wq) => check_ (.slice A N c) L N wq (O1.out.below b (Nat.le_refl _)) (by omega) hT
  have hv := vld_plane HO.out (by rw [HPN.out]; omega)
  rw [HPN.out] at hv
  rw [hv] at CK
  obtain ⟨m, hm⟩ : ∃ m, (partsK L N N).length = m := ⟨_, rfl⟩
  rw [hm] at RP CK
  clear hv hm
  by_cases h1 : m = 1
  · subst h1
    rw [if_pos rfl] at CK
    have HRP := Lib.hid RP
    have HCK := Lib.hid CK
    clear RP CK
    go_wp2_with (first
      | (go_at_call 14; have _z := E3; refine (HCK.out _ E3.out (HT.out.below B3.out (Nat.le_refl _))).mono ?_; rintro e w4 ⟨rfl, b4⟩; have B4 := Lib.hid (B3.out.trans (b4.mono B3.out.size)); clear b4)
      | (go_at_call 9; refine (WK.out _ (HT.out.below B2.out (Nat.le_refl _))).mono ?_; rintro e w3 ⟨rfl, b3⟩; have B3 := Lib.hid (B2.out.trans (b3.mono B2.out.size)); have E3 := Lib.hid (E2.out.trans (b3.mono E2.out.size)); clear b3)
      | (go_at_call 13; refine HRP.out.mono ?_; rintro e w2 ⟨A2, c2, m2, rfl, hm2, -, b2⟩; subst hm2; have B2 := Lib.hid (B1.out.trans (b2.mono B1.out.size)); have E2 := Lib.hid b2; clear b2))
    go_ret
    exact ⟨rfl, B4.out⟩
  · rw [if_neg h1] at CK
    have q1 : ((m : Int) == 1) = false := by rw [beq_eq_false_iff_ne]; omega
    have q2 : ((m : Int) != 1) = true := by rw [bne, q1]; rfl
    have HRP := Lib.hid RP
    have HCK := Lib.hid CK
    clear RP CK h1
    go_wp2_with (first
      | (go_at_call 14; have _z := E3; refine (HCK.out _ E3.out (HT.out.below B3.out (Nat.le_refl _))).mono ?_; rintro e w4 ⟨rfl, b4⟩; have B4 := Lib.hid (B3.out.trans (b4.mono B3.out.size)); clear b4)
      | (go_at_call 9; refine (WK.out _ (HT.out.below B2.out (Nat.le_refl _))).mono ?_; rintro e w3 ⟨rfl, b3⟩; have B3 := Lib.hid (B2.out.trans (b3.mono B2.out.size)); have E3 := Lib.hid (E2.out.trans (b3.mono E2.out.size)); clear b3)
      | (go_at_call 13; refine HRP.out.mono ?_; rintro e w2 ⟨A2, c2, m2, rfl, hm2, -, b2⟩; subst hm2; have B2 := Lib.hid (B1.out.trans (b2.mono B1.out.size)); have E2 := Lib.hid b2; clear b2))
    go_ret
    exact ⟨rfl, B4.out⟩
end Go.Proofs.YtbdkkkpgjcfdgaaDoor
