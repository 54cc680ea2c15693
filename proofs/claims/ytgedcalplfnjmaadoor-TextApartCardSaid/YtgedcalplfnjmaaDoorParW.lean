/-
  Check, Equal: may a shape be written, are two the same? Conditions: bends of at most 1000000 letters each.
-/
import Derived.Test.YtgedcalplfnjmaaDoorParV
import Derived.Test.YtgedcalplfnjmaaDoorCompassB
namespace Go.Proofs.YtgedcalplfnjmaaDoor
open Go.RowKit Go.Proofs.YtgedcalplfnjmaaDoor.LexM Go.Proofs.YtgedcalplfnjmaaDoor.ParM

def vtxB (v : Int) (n : Nat) : Bool := decide (0 ≤ v) && decide (v < n)
def chkE (n : Nat) (e : Edg) : Int := if vtxB e.1 n = false then 3 else if vtxB e.2.1 n = false then 3 else if goodB e.2.2.1 = false then 2 else if isTurns e.2.2.2 = false then 2 else 0
set_option maxHeartbeats 4000000 in
set_option maxRecDepth 100000 in
theorem checkEdge (n : Nat) (e : Edg) (w : World) (hb : e.2.2.2.length ≤ 1000000) :
    Calls Tryd.prog 25 #[valE e, .int .i64 n] w fun r w' => r = .returned (.int .i64 (chkE n e)) ∧ Below w.heap.size w w' := by
  obtain ⟨f, t, d, bb⟩ := e
  show Calls Tryd.prog 25 #[.agg #[.int .i64 f, .int .i64 t, .int .i64 d, .string (bs bb)], .int .i64 n] w _
  simp only at hb
  have VF := Lib.hid (isVertex f n)
  have VT := Lib.hid (isVertex t n)
  have G := Lib.hid (fun w => (good_any d w).mono fun _ _ ⟨a, b⟩ => (⟨a, b.symm⟩ : _ ∧ w = _))
  have T := Lib.hid (fun w => areBends (bs bb) w (by rw [bs_size]; omega))
  have arm : True := trivial
  clear arm
  cases h1 : vtxB f n with
  | false =>
    have VF2 := VF.out
    unfold vtxB at h1
    rw [h1] at VF2
    have E : Hid (chkE n (f, t, d, bb) = 3) := Lib.hid (by unfold chkE vtxB; rw [h1]; rfl)
    clear h1 VF
    generalize bs bb = sb at *
    go_enter Tryd.func25, Tryd.ntmps25
    go_wp2_with (go_at_call 31; (with_reducible refine (VF2 _).mono ?_); rintro e w1 ⟨rfl, rfl⟩)
    go_ret
    exact ⟨ret_int E.out.symm, (Below.refl _ _).alloc (Nat.le_refl _) _⟩
  | true =>
    have VF2 := VF.out
    have h1' := h1
    unfold vtxB at h1'
    rw [h1'] at VF2
    clear VF h1'
    cases h2 : vtxB t n with
    | false =>
      have VT2 := VT.out
      have h2' := h2
      unfold vtxB at h2'
      rw [h2'] at VT2
      have E : Hid (chkE n (f, t, d, bb) = 3) := Lib.hid (by unfold chkE; simp only [h1, h2]; rfl)
      clear h1 h2 h2' VT
      generalize bs bb = sb at *
      go_enter Tryd.func25, Tryd.ntmps25
      go_wp2_with (go_at_call 31; (first | (with_reducible refine (VF2 _).mono ?_) | (with_reducible refine (VT2 _).mono ?_)); rintro e w1 ⟨rfl, rfl⟩)
      go_ret
      exact ⟨ret_int E.out.symm, (Below.refl _ _).alloc (Nat.le_refl _) _⟩
    | true =>
      have VT2 := VT.out
      have h2' := h2
      unfold vtxB at h2'
      rw [h2'] at VT2
      clear VT h2'
      cases h3 : goodB d with
      | false =>
        have G2 := G.out
        rw [h3] at G2
        have E : Hid (chkE n (f, t, d, bb) = 2) := Lib.hid (by unfold chkE; simp only [h1, h2, h3]; rfl)
        clear h1 h2 h3 G
        generalize bs bb = sb at *
        go_enter Tryd.func25, Tryd.ntmps25
        go_wp2_with (first
          | (go_at_call 31; (first | (with_reducible refine (VF2 _).mono ?_) | (with_reducible refine (VT2 _).mono ?_)); rintro e w1 ⟨rfl, rfl⟩)
          | (go_at_call 12; refine (G2 _).mono ?_; rintro e w1 ⟨rfl, rfl⟩))
        go_ret
        exact ⟨ret_int E.out.symm, (Below.refl _ _).alloc (Nat.le_refl _) _⟩
      | true =>
        have G2 := G.out
        rw [h3] at G2
        have E : Hid (chkE n (f, t, d, bb) = if isTurns bb = false then 2 else 0) := Lib.hid (by unfold chkE; simp only [h1, h2, h3]; rfl)
        have T2 := T.out
        rw [bs_data] at T2
        clear h1 h2 h3 G T
        generalize bs bb = sb at *
        cases h4 : isTurns bb
        all_goals
          rw [h4] at T2
          have E2 := E.out
          rw [h4] at E2
          have E3 := Lib.hid E2
          clear h4 E E2
          go_enter Tryd.func25, Tryd.ntmps25
          go_wp2_with (first
            | (go_at_call 32; refine (T2 _).mono ?_; rintro e w1 ⟨rfl, b1⟩; have B1 := Lib.hid b1; clear b1)
            | (go_at_call 31; (first | (with_reducible refine (VF2 _).mono ?_) | (with_reducible refine (VT2 _).mono ?_)); rintro e w1 ⟨rfl, rfl⟩)
            | (go_at_call 12; refine (G2 _).mono ?_; rintro e w1 ⟨rfl, rfl⟩))
          go_ret
          exact ⟨ret_int E3.out.symm, ((Below.refl _ _).alloc (Nat.le_refl _) _).trans (B1.out.mono (by simp))⟩
end Go.Proofs.YtgedcalplfnjmaaDoor
