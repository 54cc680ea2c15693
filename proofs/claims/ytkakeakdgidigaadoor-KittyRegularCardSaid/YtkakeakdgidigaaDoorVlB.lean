/-
  What the code's hang, alone and place answer. Conditions: at most 100000 cells, a million rotations.
-/
import Derived.Test.YtkakeakdgidigaaDoorVzJ3
import Derived.Test.YtkakeakdgidigaaDoorVlM
namespace Go.Proofs.YtkakeakdgidigaaDoor
open Go.RowKit Go.Proofs.YtkakeakdgidigaaDoor.GrM Go.Proofs.YtkakeakdgidigaaDoor.FcM Go.Proofs.YtkakeakdgidigaaDoor.JoM Go.Proofs.YtkakeakdgidigaaDoor.VdM

theorem alone_ (A : Option Addr) (n c : Nat) (w : World) :
    Calls Tryd.prog 29 #[.slice A n c] w fun e w' => e = .returned (.bool (decide (n = 1))) ∧ w = w' := by
  have q0 : ((n : Int) == 1) = decide (n = 1) := by rw [Bool.eq_iff_iff]; simp; omega
  go_enter Tryd.func29, Tryd.ntmps29
  go_wp2_with fail
  go_ret
  exact ⟨ret_bool (by first | rfl | exact q0 | (rw [← q0]; rfl) | simp [q0]), rfl⟩
set_option maxHeartbeats 4000000 in
theorem hangBad (lv : Value) (L : List Int) (n : Nat) (w : World) (hL : CelAt w lv L n) (hn : n ≤ 100000) (h0 : chkG L n ≠ 0) :
    Calls Tryd.prog 28 #[lv] w fun e w' => e = .returned (.int .i64 (chkG L n)) ∧ Below w.heap.size w w' := by
  have CK := Lib.hid (checkY lv L n w hL hn)
  have q4 : (chkG L n == 0) = false := by rw [beq_eq_false_iff_ne]; exact h0
  have q5 : (chkG L n != 0) = true := by rw [bne, q4]; rfl
  generalize chkG L n = cv at *
  clear h0 hL
  go_enter Tryd.func28, Tryd.ntmps28
  go_wp2_with (go_at_call 47; refine CK.out.mono ?_; rintro e w1 ⟨rfl, b1⟩; have B1 := Lib.hid b1; clear b1)
  go_ret
  exact ⟨rfl, B1.out⟩
/-- Of cells that may be: do they hang together? -/
def hangI (b : Bool) : Int := if b = true then 0 else 13
set_option maxHeartbeats 4000000 in
theorem hangGood (lv : Value) (L : List Int) (n : Nat) (w : World) (hL : CelAt w lv L n) (hn : n ≤ 100000) (h0 : chkG L n = 0) :
    Calls Tryd.prog 28 #[lv] w fun e w' => e = .returned (.int .i64 (hangI (decide ((partsK L n n).length = 1)))) ∧ Below w.heap.size w w' := by
  have CK := checkY lv L n w hL hn
  rw [h0] at CK
  have CH := Lib.hid CK
  have WH : Hid (∀ wq, Below w.heap.size w wq → Calls Tryd.prog 48 #[lv] wq fun e w' => e = .returned (.bool (decide ((partsK L n n).length = 1))) ∧ Below wq.heap.size wq w') := Lib.hid (fun wq b => by
    have h := whole_ lv L n wq (hL.below b (Nat.le_refl _)) hn
    unfold wholeB at h
    rw [decide_eq_true h0, Bool.true_and] at h
    exact h)
  generalize decide ((partsK L n n).length = 1) = x at WH ⊢
  clear CK hL h0
  cases x
  · go_enter Tryd.func28, Tryd.ntmps28
    go_wp2_with (first
      | (go_at_call 48; refine (WH.out _ B1.out).mono ?_; rintro e w2 ⟨rfl, b2⟩; have B2 := Lib.hid (B1.out.trans (b2.mono B1.out.size)); clear b2)
      | (go_at_call 47; refine CH.out.mono ?_; rintro e w1 ⟨rfl, b1⟩; have B1 := Lib.hid b1; clear b1))
    go_ret
    exact ⟨rfl, B2.out⟩
  · go_enter Tryd.func28, Tryd.ntmps28
    go_wp2_with (first
      | (go_at_call 48; refine (WH.out _ B1.out).mono ?_; rintro e w2 ⟨rfl, b2⟩; have B2 := Lib.hid (B1.out.trans (b2.mono B1.out.size)); clear b2)
      | (go_at_call 47; refine CH.out.mono ?_; rintro e w1 ⟨rfl, b1⟩; have B1 := Lib.hid b1; clear b1))
    go_ret
    exact ⟨rfl, B2.out⟩
def PlRel (R : List Int) (m : Nat) (av ov iv : Value) : Prop := ∃ k a o : Nat, iv = .int .i64 k ∧ k ≤ m ∧ av = .int .i64 a ∧ ov = .int .i64 o ∧ PlR R k a o
/-- What place answers: yes, with the outer one's place; or no. -/
def PlaceP (R : List Int) (e : Ending) : Prop :=
  (goodR R ∧ e = .returned (.tuple #[.int .i64 (outI R : Nat), .int .i64 0])) ∨ (¬ goodR R ∧ e = .returned (.tuple #[.int .i64 0, .int .i64 10]))
set_option maxHeartbeats 4000000 in
set_option maxRecDepth 100000 in
theorem place_ (zv : Value) (R : List Int) (m : Nat) (w : World) (hZ : ZsAt w zv R m) (hm : m ≤ 1000000) :
    Calls Tryd.prog 30 #[zv] w fun e w' => PlaceP R e ∧ w = w' := by
  have HZ := Lib.hid hZ
  have HM := Lib.hid hZ.1
  obtain ⟨A, c, e⟩ := hZ.form
  subst e
  clear hZ
  go_enter Tryd.func30, Tryd.ntmps30
  go_wp2_with fail
  go_loopw [4, 5, 10] (fun av ov iv wr => PlRel R m av ov iv ∧ wr = w) (fun _ _ iv _ => m - (intOf iv).toNat)
  case atStart => exact ⟨⟨0, 0, 0, rfl, Nat.zero_le _, rfl, rfl, PlR.start R⟩, rfl⟩
  case round =>
    obtain ⟨⟨k, a, o, rfl, hk, rfl, rfl, hp⟩, hw⟩ := hrel
    have hw2 : w = wr := hw.symm
    clear hw
    subst hw2
    have HP := Lib.hid hp
    have hok := hp.le
    clear hp
    by_cases hlt : k < m
    · have q0 : decide (k < m) = true := decide_eq_true hlt
      obtain ⟨b, o9, c9, e, hb, hx⟩ := HZ.out.nth hlt
      simp only [Value.slice.injEq, true_and] at e
      obtain ⟨rfl, rfl⟩ := e
      have HKL : Hid (k < R.length) := Lib.hid (by rw [HM.out]; exact hlt)
      by_cases c1 : R.getD k 0 = -4
      · have H2 := Lib.hid (HP.out.outer HKL.out c1)
        rw [c1] at hx
        clear c1
        go_wp2_with fail
        go_roundw
        case rel => exact ⟨⟨k + 1, k, o + 1, by go_num, by omega, by go_num, by go_num, H2.out⟩, by trivial⟩
        case measure => (simp [intOf] <;> omega)
      · by_cases c2 : R.getD k 0 = 4
        · have H2 := Lib.hid (HP.out.inner HKL.out c2)
          rw [c2] at hx
          clear c1 c2
          go_wp2_with fail
          go_roundw
          case rel => exact ⟨⟨k + 1, a, o, by go_num, by omega, rfl, rfl, H2.out⟩, by trivial⟩
          case measure => (simp [intOf] <;> omega)
        · have H2 := Lib.hid (PlR.bad HKL.out c2 c1)
          obtain ⟨r, hr⟩ : ∃ r, R.getD k 0 = r := ⟨_, rfl⟩
          rw [hr] at hx c1 c2
          have q1 : (r == -4) = false := by rw [beq_eq_false_iff_ne]; exact c1
          have q2 : (r == 4) = false := by rw [beq_eq_false_iff_ne]; exact c2
          clear c1 c2 hr
          go_wp2_with fail
          go_ret2
          exact ⟨Or.inr ⟨H2.out, rfl⟩, rfl⟩
    · have hkm : k = m := by omega
      have q0 : decide (k < m) = false := decide_eq_false hlt
      have hp := HP.out
      rw [hkm, ← HM.out] at hp
      by_cases c1 : o = 1
      · obtain ⟨g1, g2⟩ := hp.yes c1
        have G := Lib.hid g1
        have G2 := Lib.hid g2
        have q1 : ((o : Int) == 1) = true := by rw [beq_iff_eq]; omega
        have q2 : ((o : Int) != 1) = false := by rw [bne, q1]; rfl
        clear g1 g2 hp c1
        go_wp2_with fail
        go_ret2
        exact ⟨Or.inl ⟨G.out, by rw [G2.out]; rfl⟩, rfl⟩
      · have G := Lib.hid (hp.no c1)
        have q1 : ((o : Int) == 1) = false := by rw [beq_eq_false_iff_ne]; omega
        have q2 : ((o : Int) != 1) = true := by rw [bne, q1]; rfl
        clear hp
        go_wp2_with fail
        go_ret2
        exact ⟨Or.inr ⟨G.out, rfl⟩, rfl⟩
end Go.Proofs.YtkakeakdgidigaaDoor
