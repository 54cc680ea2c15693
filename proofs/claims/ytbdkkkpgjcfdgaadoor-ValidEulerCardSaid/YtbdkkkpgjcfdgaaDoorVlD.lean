/-
  What the code's Check and Outer answer. Conditions: at most 100000 cells; the ways read as the program lays them.
-/
import Derived.Test.YtbdkkkpgjcfdgaaDoorVlC
namespace Go.Proofs.YtbdkkkpgjcfdgaaDoor
open Go.RowKit Go.Proofs.YtbdkkkpgjcfdgaaDoor.GrM Go.Proofs.YtbdkkkpgjcfdgaaDoor.FcM Go.Proofs.YtbdkkkpgjcfdgaaDoor.JoM Go.Proofs.YtbdkkkpgjcfdgaaDoor.VdM

theorem placeY {zv : Value} {R : List Int} {m : Nat} {w : World} (hg : goodR R) (hZ : ZsAt w zv R m) (hm : m ≤ 1000000) :
    Calls Tryd.prog 34 #[zv] w fun e w' => e = .returned (.tuple #[.int .i64 (outI R : Nat), .int .i64 0]) ∧ w = w' := by
  refine (place_ zv R m w hZ hm).mono ?_
  rintro e w' ⟨h, rfl⟩
  rcases h with ⟨_, rfl⟩ | ⟨h, _⟩
  · exact ⟨rfl, rfl⟩
  · exact absurd hg h
theorem placeN {zv : Value} {R : List Int} {m : Nat} {w : World} (hg : ¬ goodR R) (hZ : ZsAt w zv R m) (hm : m ≤ 1000000) :
    Calls Tryd.prog 34 #[zv] w fun e w' => e = .returned (.tuple #[.int .i64 0, .int .i64 10]) ∧ w = w' := by
  refine (place_ zv R m w hZ hm).mono ?_
  rintro e w' ⟨h, rfl⟩
  rcases h with ⟨h, _⟩ | ⟨_, rfl⟩
  · exact absurd h hg
  · exact ⟨rfl, rfl⟩
set_option maxHeartbeats 8000000 in
theorem check_ (lv : Value) (L : List Int) (n : Nat) (w : World) (hL : CelAt w lv L n) (hn : n ≤ 100000) (hT : WayT w) :
    Calls Tryd.prog 14 #[lv] w fun e w' => e = .returned (.int .i64 (vldE L n)) ∧ Below w.heap.size w w' := by
  by_cases h0 : chkG L n = 0
  · have HG := hangGood lv L n w hL hn h0
    obtain ⟨A, c, e⟩ := hL.form
    subst e
    have AL := Lib.hid (fun w => alone_ A n c w)
    by_cases h1 : (partsK L n n).length = 1
    · rw [decide_eq_true h1] at HG
      have HH := Lib.hid HG
      by_cases hn1 : n = 1
      · rw [vld_one h0 h1 hn1]
        have AT := AL.out
        rw [decide_eq_true hn1] at AT
        have AH := Lib.hid AT
        clear AL HG hL h0 h1 hn1 AT
        go_enter Tryd.func14, Tryd.ntmps14
        go_wp2_with (first
          | (go_at_call 33; have _z := B1; refine (AH.out _).mono ?_; rintro e w2 ⟨rfl, rfl⟩)
          | (go_at_call 32; refine HH.out.mono ?_; rintro e w1 ⟨rfl, b1⟩; have B1 := Lib.hid b1; clear b1))
        go_ret
        exact ⟨rfl, B1.out⟩
      · have AT := AL.out
        rw [decide_eq_false hn1] at AT
        have AH := Lib.hid AT
        have RR := Lib.hid (fun wq (b : Below w.heap.size w wq) => rots_ (.slice A n c) L n wq (hL.below b (Nat.le_refl _)) (hT.below b (Nat.le_refl _)) h0)
        by_cases hg : goodR (rotsK L n)
        · rw [vld_yes h0 h1 hg]
          have GH := Lib.hid hg
          clear AL HG hL h0 h1 hn1 AT hg
          go_enter Tryd.func14, Tryd.ntmps14
          go_wp2_with (first
            | (go_at_call 34; have _z := Z3; refine (placeY GH.out Z3.out M3.out).mono ?_; rintro e w4 ⟨rfl, rfl⟩)
            | (go_at_call 35; have _z := AH2; refine (RR.out _ B1.out).mono ?_; rintro e w3 ⟨A3, c3, m3, rfl, hm3, o3, b3⟩; have Z3 := Lib.hid (OwnZ.zs o3); have M3 := Lib.hid hm3; have B3 := Lib.hid (B1.out.trans (b3.mono B1.out.size)); clear o3 hm3 b3)
            | (go_at_call 33; have _z := B1; refine (AH.out _).mono ?_; rintro e w2 ⟨rfl, rfl⟩; have AH2 := AH)
            | (go_at_call 32; refine HH.out.mono ?_; rintro e w1 ⟨rfl, b1⟩; have B1 := Lib.hid b1; clear b1))
          go_ret
          exact ⟨rfl, B3.out⟩
        · rw [vld_no h0 h1 hn1 hg]
          have GH := Lib.hid hg
          clear AL HG hL h0 h1 hn1 AT hg
          go_enter Tryd.func14, Tryd.ntmps14
          go_wp2_with (first
            | (go_at_call 34; have _z := Z3; refine (placeN GH.out Z3.out M3.out).mono ?_; rintro e w4 ⟨rfl, rfl⟩)
            | (go_at_call 35; have _z := AH2; refine (RR.out _ B1.out).mono ?_; rintro e w3 ⟨A3, c3, m3, rfl, hm3, o3, b3⟩; have Z3 := Lib.hid (OwnZ.zs o3); have M3 := Lib.hid hm3; have B3 := Lib.hid (B1.out.trans (b3.mono B1.out.size)); clear o3 hm3 b3)
            | (go_at_call 33; have _z := B1; refine (AH.out _).mono ?_; rintro e w2 ⟨rfl, rfl⟩; have AH2 := AH)
            | (go_at_call 32; refine HH.out.mono ?_; rintro e w1 ⟨rfl, b1⟩; have B1 := Lib.hid b1; clear b1))
          go_ret
          exact ⟨rfl, B3.out⟩
    · rw [vld_apart h0 h1]
      rw [decide_eq_false h1] at HG
      have HH := Lib.hid HG
      clear AL HG hL h0 h1
      go_enter Tryd.func14, Tryd.ntmps14
      go_wp2_with (go_at_call 32; refine HH.out.mono ?_; rintro e w1 ⟨rfl, b1⟩; have B1 := Lib.hid b1; clear b1)
      go_ret
      exact ⟨rfl, B1.out⟩
  · have HH := Lib.hid (hangBad lv L n w hL hn h0)
    rw [vld_bad h0]
    have q4 : (chkG L n == 0) = false := by rw [beq_eq_false_iff_ne]; exact h0
    have q5 : (chkG L n != 0) = true := by rw [bne, q4]; rfl
    generalize chkG L n = cv at *
    clear h0 hL
    go_enter Tryd.func14, Tryd.ntmps14
    go_wp2_with (go_at_call 32; refine HH.out.mono ?_; rintro e w1 ⟨rfl, b1⟩; have B1 := Lib.hid b1; clear b1)
    go_ret
    exact ⟨rfl, B1.out⟩
set_option maxHeartbeats 8000000 in
theorem outer_ (lv : Value) (L : List Int) (n : Nat) (w : World) (hL : CelAt w lv L n) (hn : n ≤ 100000) (hT : WayT w) :
    Calls Tryd.prog 23 #[lv] w fun e w' => e = .returned (.tuple #[.int .i64 (outW L n), .int .i64 (outQ L n)]) ∧ Below w.heap.size w w' := by
  by_cases h0 : chkG L n = 0
  · have HG := hangGood lv L n w hL hn h0
    obtain ⟨A, c, e⟩ := hL.form
    subst e
    have AL := Lib.hid (fun w => alone_ A n c w)
    by_cases h1 : (partsK L n n).length = 1
    · rw [decide_eq_true h1] at HG
      have HH := Lib.hid HG
      by_cases hn1 : n = 1
      · obtain ⟨e1, e2, -⟩ := ans_one (vld_one h0 h1 hn1) hn1
        rw [e1, e2]
        have AT := AL.out
        rw [decide_eq_true hn1] at AT
        have AH := Lib.hid AT
        clear AL HG hL h0 h1 hn1 AT e1 e2
        go_enter Tryd.func23, Tryd.ntmps23
        go_wp2_with (first
          | (go_at_call 33; have _z := B1; refine (AH.out _).mono ?_; rintro e w2 ⟨rfl, rfl⟩)
          | (go_at_call 32; refine HH.out.mono ?_; rintro e w1 ⟨rfl, b1⟩; have B1 := Lib.hid b1; clear b1))
        go_ret2
        exact ⟨rfl, B1.out⟩
      · have AT := AL.out
        rw [decide_eq_false hn1] at AT
        have AH := Lib.hid AT
        have RR := Lib.hid (fun wq (b : Below w.heap.size w wq) => rots_ (.slice A n c) L n wq (hL.below b (Nat.le_refl _)) (hT.below b (Nat.le_refl _)) h0)
        by_cases hg : goodR (rotsK L n)
        · obtain ⟨e1, e2, -⟩ := ans_good (vld_yes h0 h1 hg) hn1
          rw [e1, e2]
          have GH := Lib.hid hg
          clear AL HG hL h0 h1 hn1 AT hg e1 e2
          go_enter Tryd.func23, Tryd.ntmps23
          go_wp2_with (first
            | (go_at_call 34; have _z := Z3; refine (placeY GH.out Z3.out M3.out).mono ?_; rintro e w4 ⟨rfl, rfl⟩)
            | (go_at_call 35; have _z := AH2; refine (RR.out _ B1.out).mono ?_; rintro e w3 ⟨A3, c3, m3, rfl, hm3, o3, b3⟩; have Z3 := Lib.hid (OwnZ.zs o3); have M3 := Lib.hid hm3; have B3 := Lib.hid (B1.out.trans (b3.mono B1.out.size)); clear o3 hm3 b3)
            | (go_at_call 33; have _z := B1; refine (AH.out _).mono ?_; rintro e w2 ⟨rfl, rfl⟩; have AH2 := AH)
            | (go_at_call 32; refine HH.out.mono ?_; rintro e w1 ⟨rfl, b1⟩; have B1 := Lib.hid b1; clear b1))
          go_ret2
          exact ⟨rfl, B3.out⟩
        · have hv := vld_no h0 h1 hn1 hg
          obtain ⟨e1, e2, -⟩ := ans_bad (show vldE L n ≠ 0 by rw [hv]; decide)
          rw [e1, e2, hv]
          have GH := Lib.hid hg
          clear AL HG hL h0 h1 hn1 AT hg e1 e2 hv
          go_enter Tryd.func23, Tryd.ntmps23
          go_wp2_with (first
            | (go_at_call 34; have _z := Z3; refine (placeN GH.out Z3.out M3.out).mono ?_; rintro e w4 ⟨rfl, rfl⟩)
            | (go_at_call 35; have _z := AH2; refine (RR.out _ B1.out).mono ?_; rintro e w3 ⟨A3, c3, m3, rfl, hm3, o3, b3⟩; have Z3 := Lib.hid (OwnZ.zs o3); have M3 := Lib.hid hm3; have B3 := Lib.hid (B1.out.trans (b3.mono B1.out.size)); clear o3 hm3 b3)
            | (go_at_call 33; have _z := B1; refine (AH.out _).mono ?_; rintro e w2 ⟨rfl, rfl⟩; have AH2 := AH)
            | (go_at_call 32; refine HH.out.mono ?_; rintro e w1 ⟨rfl, b1⟩; have B1 := Lib.hid b1; clear b1))
          go_ret2
          exact ⟨rfl, B3.out⟩
    · have hv := vld_apart h0 h1
      obtain ⟨e1, e2, -⟩ := ans_bad (show vldE L n ≠ 0 by rw [hv]; decide)
      rw [e1, e2, hv]
      rw [decide_eq_false h1] at HG
      have HH := Lib.hid HG
      clear AL HG hL h0 h1 e1 e2 hv
      go_enter Tryd.func23, Tryd.ntmps23
      go_wp2_with (go_at_call 32; refine HH.out.mono ?_; rintro e w1 ⟨rfl, b1⟩; have B1 := Lib.hid b1; clear b1)
      go_ret2
      exact ⟨rfl, B1.out⟩
  · have HH := Lib.hid (hangBad lv L n w hL hn h0)
    have hv := vld_bad h0
    obtain ⟨e1, e2, -⟩ := ans_bad (show vldE L n ≠ 0 by rw [hv]; exact h0)
    rw [e1, e2, hv]
    have q4 : (chkG L n == 0) = false := by rw [beq_eq_false_iff_ne]; exact h0
    have q5 : (chkG L n != 0) = true := by rw [bne, q4]; rfl
    clear e1 e2 hv
    generalize chkG L n = cv at *
    clear h0 hL
    go_enter Tryd.func23, Tryd.ntmps23
    go_wp2_with (go_at_call 32; refine HH.out.mono ?_; rintro e w1 ⟨rfl, b1⟩; have B1 := Lib.hid b1; clear b1)
    go_ret2
    exact ⟨rfl, B1.out⟩
end Go.Proofs.YtbdkkkpgjcfdgaaDoor
