/-
  What the code's Check and Outer answer. Conditions: at most 100000 cells; the ways read as the program lays them.
-/
import Derived.Test.YtkakeakdgidigaaDoorVlC
namespace Go.Proofs.YtkakeakdgidigaaDoor
open Go.RowKit Go.Proofs.YtkakeakdgidigaaDoor.GrM Go.Proofs.YtkakeakdgidigaaDoor.FcM Go.Proofs.YtkakeakdgidigaaDoor.JoM Go.Proofs.YtkakeakdgidigaaDoor.VdM

theorem placeY {zv : Value} {R : List Int} {m : Nat} {w : World} (hg : goodR R) (hZ : ZsAt w zv R m) (hm : m ≤ 1000000) :
    Calls Tryd.prog 30 #[zv] w fun e w' => e = .returned (.tuple #[.int .i64 (outI R : Nat), .int .i64 0]) ∧ w = w' := by
  refine (place_ zv R m w hZ hm).mono ?_
  rintro e w' ⟨h, rfl⟩
  rcases h with ⟨_, rfl⟩ | ⟨h, _⟩
  · exact ⟨rfl, rfl⟩
  · exact absurd hg h
theorem placeN {zv : Value} {R : List Int} {m : Nat} {w : World} (hg : ¬ goodR R) (hZ : ZsAt w zv R m) (hm : m ≤ 1000000) :
    Calls Tryd.prog 30 #[zv] w fun e w' => e = .returned (.tuple #[.int .i64 0, .int .i64 10]) ∧ w = w' := by
  refine (place_ zv R m w hZ hm).mono ?_
  rintro e w' ⟨h, rfl⟩
  rcases h with ⟨h, _⟩ | ⟨_, rfl⟩
  · exact absurd h hg
  · exact ⟨rfl, rfl⟩
set_option maxHeartbeats 8000000 in
theorem check_ (lv : Value) (L : List Int) (n : Nat) (w : World) (hL : CelAt w lv L n) (hn : n ≤ 100000) (hT : WayT w) :
    Calls Tryd.prog 15 #[lv] w fun e w' => e = .returned (.int .i64 (vldE L n)) ∧ Below w.heap.size w w' := by
  by_cases h0 : chkG L n = 0
  · have HG := hangGood lv L n w hL hn h0
    obtain ⟨A, c, e⟩ := hL.form
    subst e
    have AL := Lib.hid (fun w => alone_ A n c w)
    by_cases h1 : (partsK L n n).length = 1
    · rw [decide_eq_true h1] at HG
      have HH := Lib.hid HG
      by_cases hn1 : n = 1
      · rw [vld_one h0 h1 hn1]
        have AT := AL.out
        rw [decide_eq_true hn1] at AT
        have AH := Lib.hid AT
        clear AL HG hL h0 h1 hn1 AT
        go_enter Tryd.func15, Tryd.ntmps15
        go_wp2_with (first
          | (go_at_call 29; have _z := B1; refine (AH.out _).mono ?_; rintro e w2 ⟨rfl, rfl⟩)
          | (go_at_call 28; refine HH.out.mono ?_; rintro e w1 ⟨rfl, b1⟩; have B1 := Lib.hid b1; clear b1))
        go_ret
        exact ⟨rfl, B1.out⟩
      · have AT := AL.out
        rw [decide_eq_false hn1] at AT
        have AH := Lib.hid AT
        have RR := Lib.hid (fun wq (b : Below w.heap.size w wq) => rots_ (.slice A n c) L n wq (hL.below b (Nat.le_refl _)) (hT.below b (Nat.le_refl _)) h0)
        by_cases hg : goodR (rotsK L n)
        · rw [vld_yes h0 h1 hg]
          have GH := Lib.hid hg
          clear AL HG hL h0 h1 hn1 AT hg
          go_enter Tryd.func15, Tryd.ntmps15
          go_wp2_with (first
            | (go_at_call 30; have _z := Z3; refine (placeY GH.out Z3.out M3.out).mono ?_; rintro e w4 ⟨rfl, rfl⟩)
            | (go_at_call 31; have _z := AH2; refine (RR.out _ B1.out).mono ?_; rintro e w3 ⟨A3, c3, m3, rfl, hm3, o3, b3⟩; have Z3 := Lib.hid (OwnZ.zs o3); have M3 := Lib.hid hm3; have B3 := Lib.hid (B1.out.trans (b3.mono B1.out.size)); clear o3 hm3 b3)
            | (go_at_call 29; have _z := B1; refine (AH.out _).mono ?_; rintro e w2 ⟨rfl, rfl⟩; have AH2 := AH)
            | (go_at_call 28; refine HH.out.mono ?_; rintro e w1 ⟨rfl, b1⟩; have B1 := Lib.hid b1; clear b1))
          go_ret
          exact ⟨rfl, B3.out⟩
        · rw [vld_no h0 h1 hn1 hg]
          have GH := Lib.hid hg
          clear AL HG hL h0 h1 hn1 AT hg
          go_enter Tryd.func15, Tryd.ntmps15
          go_wp2_with (first
            | (go_at_call 30; have _z := Z3; refine (placeN GH.out Z3.out M3.out).mono ?_; rintro e w4 ⟨rfl, rfl⟩)
            | (go_at_call 31; have _z := AH2; refine (RR.out _ B1.out).mono ?_; rintro e w3 ⟨A3, c3, m3, rfl, hm3, o3, b3⟩; have Z3 := Lib.hid (OwnZ.zs o3); have M3 := Lib.hid hm3; have B3 := Lib.hid (B1.out.trans (b3.mono B1.out.size)); clear o3 hm3 b3)
            | (go_at_call 29; have _z := B1; refine (AH.out _).mono ?_; rintro e w2 ⟨rfl, rfl⟩; have AH2 := AH)
            | (go_at_call 28; refine HH.out.mono ?_; rintro e w1 ⟨rfl, b1⟩; have B1 := Lib.hid b1; clear b1))
          go_ret
          exact ⟨rfl, B3.out⟩
    · rw [vld_apart h0 h1]
      rw [decide_eq_false h1] at HG
      have HH := Lib.hid HG
      clear AL HG hL h0 h1
      go_enter Tryd.func15, Tryd.ntmps15
      go_wp2_with (go_at_call 28; refine HH.out.mono ?_; rintro e w1 ⟨rfl, b1⟩; have B1 := Lib.hid b1; clear b1)
      go_ret
      exact ⟨rfl, B1.out⟩
  · have HH := Lib.hid (hangBad lv L n w hL hn h0)
    rw [vld_bad h0]
    have q4 : (chkG L n == 0) = false := by rw [beq_eq_false_iff_ne]; exact h0
    have q5 : (chkG L n != 0) = true := by rw [bne, q4]; rfl
    generalize chkG L n = cv at *
    clear h0 hL
    go_enter Tryd.func15, Tryd.ntmps15
    go_wp2_with (go_at_call 28; refine HH.out.mono ?_; rintro e w1 ⟨rfl, b1⟩; have B1 := Lib.hid b1; clear b1)
    go_ret
    exact ⟨rfl, B1.out⟩

end Go.Proofs.YtkakeakdgidigaaDoor
