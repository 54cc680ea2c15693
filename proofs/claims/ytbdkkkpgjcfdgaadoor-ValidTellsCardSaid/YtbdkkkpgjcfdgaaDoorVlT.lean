/-
  What is told of cells is the document's: the law's 'told' answers true. Conditions: at most 100000 cells; the ways read as the program lays them.
-/
import Derived.Test.YtbdkkkpgjcfdgaaDoorVlD
import Derived.Test.YtbdkkkpgjcfdgaaDoorVlR
namespace Go.Proofs.YtbdkkkpgjcfdgaaDoor
open Go.RowKit Go.Proofs.YtbdkkkpgjcfdgaaDoor.GrM Go.Proofs.YtbdkkkpgjcfdgaaDoor.FcM Go.Proofs.YtbdkkkpgjcfdgaaDoor.JoM Go.Proofs.YtbdkkkpgjcfdgaaDoor.VdM

set_option maxHeartbeats 8000000 in
set_option maxRecDepth 100000 in
theorem told14 (lv : Value) (L : List Int) (n : Nat) (w : World) (hL : CelAt w lv L n) (hn : n ≤ 100000) (hT : WayT w) :
    Calls Tryd.prog 10 #[lv] w fun e w' => e = .returned (.bool true) ∧ Below w.heap.size w w' := by
  have RO := refOuter lv L n w hL hn
  have OT := fun wq (b : Below w.heap.size w wq) => outer_ lv L n wq (hL.below b (Nat.le_refl _)) hn (hT.below b (Nat.le_refl _))
  have CT := fun wq (b : Below w.heap.size w wq) => check_ lv L n wq (hL.below b (Nat.le_refl _)) hn (hT.below b (Nat.le_refl _))
  unfold RefOutP at RO
  by_cases hv : vldE L n = 0
  · by_cases hn1 : n = 1
    · obtain ⟨e1, e2, e3⟩ := ans_one hv hn1
      rw [e3, hv] at RO
      simp only [e1, e2] at OT
      simp only [hv] at CT
      have R := Lib.hid RO
      have O := Lib.hid OT
      have C := Lib.hid CT
      clear RO OT CT e1 e2 e3 hv hn1 hL hT
      go_enter Tryd.func10, Tryd.ntmps10
      go_wp2_with (first
        | (go_at_call 14; have _z := B2; refine (C.out _ B2.out).mono ?_; rintro e w3 ⟨rfl, b3⟩; have B3 := Lib.hid (B2.out.trans (b3.mono B2.out.size)); clear b3)
        | (go_at_call 23; refine (O.out _ B1.out).mono ?_; rintro e w2 ⟨rfl, b2⟩; have B2 := Lib.hid (B1.out.trans (b2.mono B1.out.size)); clear b2)
        | (go_at_call 25; refine R.out.mono ?_; rintro e w1 ⟨rfl, b1⟩; have B1 := Lib.hid b1; clear b1))
      go_ret
      exact ⟨rfl, B3.out⟩
    · obtain ⟨e1, e2, e3⟩ := ans_good hv hn1
      rw [e3, hv] at RO
      simp only [e1, e2] at OT
      simp only [hv] at CT
      obtain ⟨a, ha⟩ : ∃ a, outI (rotsK L n) = a := ⟨_, rfl⟩
      rw [ha] at RO
      simp only [ha] at OT
      have R := Lib.hid RO
      have O := Lib.hid OT
      have C := Lib.hid CT
      have q1 : ((a : Int) == (a : Int)) = true := by simp
      have q2 : decide ((a : Int) < 0) = false := decide_eq_false (by omega)
      clear RO OT CT e1 e2 e3 hv hn1 hL hT ha
      go_enter Tryd.func10, Tryd.ntmps10
      go_wp2_with (first
        | (go_at_call 14; have _z := B2; refine (C.out _ B2.out).mono ?_; rintro e w3 ⟨rfl, b3⟩; have B3 := Lib.hid (B2.out.trans (b3.mono B2.out.size)); clear b3)
        | (go_at_call 23; refine (O.out _ B1.out).mono ?_; rintro e w2 ⟨rfl, b2⟩; have B2 := Lib.hid (B1.out.trans (b2.mono B1.out.size)); clear b2)
        | (go_at_call 25; refine R.out.mono ?_; rintro e w1 ⟨rfl, b1⟩; have B1 := Lib.hid b1; clear b1))
      go_ret
      exact ⟨rfl, B3.out⟩
  · obtain ⟨e1, e2, e3⟩ := ans_bad hv
    rw [e3] at RO
    simp only [e1, e2] at OT
    obtain ⟨v, hv2⟩ : ∃ v, vldE L n = v := ⟨_, rfl⟩
    rw [hv2] at RO hv
    simp only [hv2] at OT CT
    have R := Lib.hid RO
    have O := Lib.hid OT
    have C := Lib.hid CT
    have q1 : (v == v) = true := by simp
    have q2 : (v != v) = false := by simp
    have q3 : (v == 0) = false := by rw [beq_eq_false_iff_ne]; exact hv
    have q4 : (v != 0) = true := by rw [bne, q3]; rfl
    clear RO OT CT e1 e2 e3 hv hL hT hv2
    go_enter Tryd.func10, Tryd.ntmps10
    go_wp2_with (first
      | (go_at_call 14; have _z := B2; refine (C.out _ B2.out).mono ?_; rintro e w3 ⟨rfl, b3⟩; have B3 := Lib.hid (B2.out.trans (b3.mono B2.out.size)); clear b3)
      | (go_at_call 23; refine (O.out _ B1.out).mono ?_; rintro e w2 ⟨rfl, b2⟩; have B2 := Lib.hid (B1.out.trans (b2.mono B1.out.size)); clear b2)
      | (go_at_call 25; refine R.out.mono ?_; rintro e w1 ⟨rfl, b1⟩; have B1 := Lib.hid b1; clear b1))
    go_ret
    exact ⟨rfl, B3.out⟩
end Go.Proofs.YtbdkkkpgjcfdgaaDoor
