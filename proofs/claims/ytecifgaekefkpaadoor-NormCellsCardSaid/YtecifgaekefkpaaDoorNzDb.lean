/-
  A grid: what Next, Add and the nil grid answer. Conditions: at most 100000 cells.
  A grid: what Split and Join answer and leave. Conditions: at most 4096 cells, or a wrong argument.
-/
import Derived.Test.YtecifgaekefkpaaDoorNzDa
import Derived.Test.YtecifgaekefkpaaDoorNzRb
import Derived.Test.YtecifgaekefkpaaDoorNzRc
namespace Go.Proofs.YtecifgaekefkpaaDoor
open Go.RowKit Go.Proofs.YtecifgaekefkpaaDoor.GrM

theorem GrdAt.side {w : World} {p n g cap : Nat} {L : List Int} (h : GrdAt w p (.slice (some ⟨g, 0, none⟩) n cap) L n) {a d : Nat} (ha : a < n) (hd : d < 4) :
    w.cell? ⟨g, a * 8 + d, none⟩ = some (.int .i64 (nxG L a d)) ∧ w.cell? ⟨g, a * 8 + 4 + d, none⟩ = some (.int .i64 (owG L a d)) := by
  obtain ⟨b, o, c, e, _, h1, h2⟩ := h.cel.nth ha
  simp only [Value.slice.injEq, Option.some.injEq, Addr.mk.injEq, true_and, and_true] at e
  obtain ⟨⟨rfl, rfl⟩, rfl⟩ := e
  have r1 := h1 d hd
  have r2 := h2 d hd
  rw [Nat.zero_add] at r1 r2
  exact ⟨r1, r2⟩
/-- Is there a next one? -/
def stepB (L : List Int) (n : Nat) (x d : Int) : Bool := hasB n x && (goodB d && decide (nxG L x.toNat d.toNat ≠ -1))
def stepN (L : List Int) (n : Nat) (x d : Int) : Int := if stepB L n x d = true then nxG L x.toNat d.toNat else 0
def stepO (L : List Int) (n : Nat) (x d : Int) : Int := if stepB L n x d = true then owG L x.toNat d.toNat else 0
theorem step_no {L : List Int} {n : Nat} {x d : Int} (h : stepB L n x d = false) : stepN L n x d = 0 ∧ stepO L n x d = 0 := by
  unfold stepN stepO; rw [h]; exact ⟨rfl, rfl⟩
theorem step_yes {L : List Int} {n a e : Nat} (ha : a < n) (he : e < 4) (h : nxG L a e ≠ -1) : stepB L n a e = true ∧ stepN L n a e = nxG L a e ∧ stepO L n a e = owG L a e := by
  have hb : stepB L n a e = true := by
    unfold stepB
    rw [hasB_t (by omega), goodB_t (by omega) (by omega), Int.toNat_natCast, Int.toNat_natCast, decide_eq_true h]; rfl
  refine ⟨hb, ?_, ?_⟩
  · unfold stepN; rw [if_pos hb, Int.toNat_natCast, Int.toNat_natCast]
  · unfold stepO; rw [if_pos hb, Int.toNat_natCast, Int.toNat_natCast]
theorem step_free {L : List Int} {n a e : Nat} (h : nxG L a e = -1) : stepB L n a e = false := by
  unfold stepB
  rw [Int.toNat_natCast, Int.toNat_natCast, h]; simp


def AddP (p : Nat) (v : Value) (L : List Int) (n : Nat) (w : World) (e : Ending) (w' : World) : Prop :=
  e = .returned (.tuple #[.int .i64 n, .int .i64 0]) ∧ Turned p v (L ++ freeC) (n + 1) w w'




theorem joinN (x d y o : Int) (w : World) : Calls Tryd.prog 51 #[.pointer none, .int .i64 x, .int .i64 d, .int .i64 y, .int .i64 o] w fun e w' => e = .returned (.int .i64 1) ∧ w = w' := by
  go_enter Tryd.func51, Tryd.ntmps51
  go_wp2
  go_ret
  exact ⟨rfl, rfl⟩
theorem cellsN (w : World) : Calls Tryd.prog 41 #[.pointer none] w fun e w' => e = .returned (.slice none 0 0) ∧ w = w' := by
  go_enter Tryd.func41, Tryd.ntmps41
  go_wp2
  go_ret
  exact ⟨rfl, rfl⟩
end Go.Proofs.YtecifgaekefkpaaDoor

namespace Go.Proofs.YtecifgaekefkpaaDoor
open Go.RowKit Go.Proofs.YtecifgaekefkpaaDoor.GrM

theorem turned_more {w w1 w2 : World} {p : Nat} {v v1 v2 : Value} (O1 : Out (FootG p v) w w1) (F1 : ∀ b, v1.ownBlock = some b → v.ownBlock = some b ∨ w.heap.size ≤ b) (O2 : Out (FootG p v1) w1 w2) (F2 : ∀ b, v2.ownBlock = some b → v1.ownBlock = some b ∨ w1.heap.size ≤ b) :
    Out (FootG p v) w w2 ∧ ∀ b, v2.ownBlock = some b → v.ownBlock = some b ∨ w.heap.size ≤ b := by
  refine ⟨O1.trans O2 (fun i hi e => ?_), fun b hb => ?_⟩
  · rcases e with e | e
    · exact Or.inl e
    · rcases F1 i e with h | h
      · exact Or.inr h
      · omega
  · rcases F2 b hb with h | h
    · exact F1 b h
    · exact Or.inr (Nat.le_trans O1.size h)
theorem Turned.same {w w' : World} {p n : Nat} {v : Value} {L : List Int} (h : GrdAt w p v L n) (hb : RowKit.Below w.heap.size w w') : Turned p v L n w w' :=
  ⟨v, h.below hb, Out.ofBelow hb, fun _ e => Or.inl e⟩
theorem Turned.trans {w w1 w2 : World} {p n m : Nat} {v : Value} {L M : List Int} (h : Turned p v L n w w1) (k : ∀ v1, GrdAt w1 p v1 L n → Turned p v1 M m w1 w2) : Turned p v M m w w2 := by
  obtain ⟨v1, G1, O1, F1⟩ := h
  obtain ⟨v2, G2, O2, F2⟩ := k v1 G1
  obtain ⟨O, F⟩ := turned_more O1 F1 O2 F2
  exact ⟨v2, G2, O, F⟩
def SplP (p : Nat) (v : Value) (M : List Int) (n : Nat) (w : World) (e : Ending) (w' : World) : Prop :=
  e = .returned (.tuple #[.int .i64 n, .int .i64 0]) ∧ Turned p v M (n + 1) w w'





set_option maxHeartbeats 4000000 in
theorem joinArg {w : World} {p n : Nat} {v : Value} {L : List Int} (h : GrdAt w p v L n) (x d y o : Int) (hb : badJ n x d y o) :
    Calls Tryd.prog 51 #[.pointer (some ⟨p, 0, none⟩), .int .i64 x, .int .i64 d, .int .i64 y, .int .i64 o] w fun e w' => e = .returned (.int .i64 2) ∧ w = w' := by
  have HA := Lib.hid (hasY x h)
  have HY := Lib.hid (hasY y h)
  have GD := Lib.hid (kept (good_any d w))
  unfold badJ at hb
  clear h
  by_cases hx : 0 ≤ x ∧ x < n
  · have q0 := hasB_t hx
    by_cases hy : 0 ≤ y ∧ y < n
    · have q1 := hasB_t hy
      by_cases he : x = y
      · have q2 : (x == y) = true := by rw [beq_iff_eq]; exact he
        clear hx hy hb he
        go_enter Tryd.func51, Tryd.ntmps51
        go_wp2_with (first | (go_at_call 55; ((with_reducible refine HA.out.mono ?_); rintro e w' ⟨rfl, rfl⟩)) | (go_at_call 55; ((with_reducible refine HY.out.mono ?_); rintro e w' ⟨rfl, rfl⟩)))
        go_ret
        exact ⟨rfl, rfl⟩
      · have q2 : (x == y) = false := by rw [beq_eq_false_iff_ne]; exact he
        by_cases hd : 0 ≤ d ∧ d < 4
        · have q3 := goodB_t hd.1 hd.2
          have q4 : decide (o < -2) = true := by rw [decide_eq_true_eq]; omega
          clear hx hy hb he hd
          go_enter Tryd.func51, Tryd.ntmps51
          go_wp2_with (first | (go_at_call 46; refine GD.out.mono ?_; rintro e w' ⟨rfl, rfl⟩) | (go_at_call 55; ((with_reducible refine HA.out.mono ?_); rintro e w' ⟨rfl, rfl⟩)) | (go_at_call 55; ((with_reducible refine HY.out.mono ?_); rintro e w' ⟨rfl, rfl⟩)))
          go_ret
          exact ⟨rfl, rfl⟩
        · have q3 := goodB_f hd
          clear hx hy hb he hd
          go_enter Tryd.func51, Tryd.ntmps51
          go_wp2_with (first | (go_at_call 46; refine GD.out.mono ?_; rintro e w' ⟨rfl, rfl⟩) | (go_at_call 55; ((with_reducible refine HA.out.mono ?_); rintro e w' ⟨rfl, rfl⟩)) | (go_at_call 55; ((with_reducible refine HY.out.mono ?_); rintro e w' ⟨rfl, rfl⟩)))
          go_ret
          exact ⟨rfl, rfl⟩
    · have q1 := hasB_f hy
      clear hx hy hb
      go_enter Tryd.func51, Tryd.ntmps51
      go_wp2_with (first | (go_at_call 55; ((with_reducible refine HA.out.mono ?_); rintro e w' ⟨rfl, rfl⟩)) | (go_at_call 55; ((with_reducible refine HY.out.mono ?_); rintro e w' ⟨rfl, rfl⟩)))
      go_ret
      exact ⟨rfl, rfl⟩
  · have q0 := hasB_f hx
    clear hx hb
    go_enter Tryd.func51, Tryd.ntmps51
    go_wp2_with (first | (go_at_call 55; ((with_reducible refine HA.out.mono ?_); rintro e w' ⟨rfl, rfl⟩)))
    go_ret
    exact ⟨rfl, rfl⟩
theorem contraryQ (d : Nat) (w : World) (hd : d < 4) : Calls Tryd.prog 56 #[.int .i64 d] w fun e w' => e = .returned (.int .i64 (opp d)) ∧ w' = w :=
  (contraryY d w hd).mono fun _ _ ⟨a, b⟩ => ⟨a, b.symm⟩
def JoiP (p : Nat) (v : Value) (M : List Int) (n : Nat) (w : World) (e : Ending) (w' : World) : Prop :=
  e = .returned (.int .i64 0) ∧ Turned p v M n w w'

set_option maxHeartbeats 8000000 in
set_option maxRecDepth 100000 in
theorem joinNo {w : World} {p n : Nat} {v : Value} {L : List Int} (h : GrdAt w p v L n) (a d x : Nat) (o : Int) (ha : a < n) (hx : x < n) (hax : a ≠ x) (hd : d < 4) (ho : -2 ≤ o) (hno : nxG L a d ≠ -1 ∨ nxG L x (opp d) ≠ -1) :
    Calls Tryd.prog 51 #[.pointer (some ⟨p, 0, none⟩), .int .i64 a, .int .i64 d, .int .i64 x, .int .i64 o] w fun e w' => e = .returned (.int .i64 9) ∧ RowKit.Below w.heap.size w w' := by
  have HA := Lib.hid (hasY (a : Int) h)
  have HY := Lib.hid (hasY (x : Int) h)
  have GD := Lib.hid (kept (good_any (d : Int) w))
  have CQ := Lib.hid (contraryQ d)
  have q0 : hasB n (a : Int) = true := hasB_t (by omega)
  have q1 : hasB n (x : Int) = true := hasB_t (by omega)
  have q2 : ((a : Int) == (x : Int)) = false := by rw [beq_eq_false_iff_ne]; omega
  have q2' : (a == x) = false := by rw [beq_eq_false_iff_ne]; exact hax
  have q3 : goodB (d : Int) = true := goodB_t (by omega) (by omega)
  have q4 : decide (o < -2) = false := by rw [decide_eq_false_iff_not]; omega
  obtain ⟨g, cap, rfl, -, -⟩ := h.some_ (by omega)
  have c0 := h.c0
  have f1 := (h.side ha hd).1
  have f2 := (h.side hx (opp_lt d)).1
  have ho4 := opp_lt d
  clear h hax ho
  by_cases h1 : nxG L a d = -1
  · have h2 : nxG L x (opp d) ≠ -1 := by rcases hno with e | e; exact absurd h1 e; exact e
    have r2 : (nxG L x (opp d) == -1) = false := by rw [beq_eq_false_iff_ne]; exact h2
    have r2' : (nxG L x (opp d) != -1) = true := by rw [bne, r2]; rfl
    rw [h1] at f1
    clear h1 h2 hno
    generalize nxG L x (opp d) = y2 at *
    generalize opp d = d2 at *
    go_enter Tryd.func51, Tryd.ntmps51
    go_wp2_with (first | (go_at_call 46; refine GD.out.mono ?_; rintro e w' ⟨rfl, rfl⟩) | (go_at_call 55; ((with_reducible refine HA.out.mono ?_); rintro e w' ⟨rfl, rfl⟩)) | (go_at_call 55; ((with_reducible refine HY.out.mono ?_); rintro e w' ⟨rfl, rfl⟩)))
    go_quiet ((go_at_call 56; exact Calls.quiet_of_same (CQ.out _ hd)))
    go_wp2_with fail
    go_ret
    exact ⟨rfl, drewN_below (Below.refl _ _) _⟩
  · have r1 : (nxG L a d == -1) = false := by rw [beq_eq_false_iff_ne]; exact h1
    have r1' : (nxG L a d != -1) = true := by rw [bne, r1]; rfl
    clear h1 hno f2
    generalize nxG L a d = y1 at *
    go_enter Tryd.func51, Tryd.ntmps51
    go_wp2_with (first | (go_at_call 46; refine GD.out.mono ?_; rintro e w' ⟨rfl, rfl⟩) | (go_at_call 55; ((with_reducible refine HA.out.mono ?_); rintro e w' ⟨rfl, rfl⟩)) | (go_at_call 55; ((with_reducible refine HY.out.mono ?_); rintro e w' ⟨rfl, rfl⟩)))
    go_quiet ((go_at_call 56; exact Calls.quiet_of_same (CQ.out _ hd)))
    go_wp2_with fail
    go_ret
    exact ⟨rfl, drewN_below (Below.refl _ _) _⟩

set_option maxHeartbeats 8000000 in
set_option maxRecDepth 100000 in
theorem joinYes {w : World} {p n : Nat} {v : Value} {L : List Int} (h : GrdAt w p v L n) (a d x : Nat) (o : Int) (ha : a < n) (hx : x < n) (hax : a ≠ x) (hd : d < 4) (ho : -2 ≤ o) (h1 : nxG L a d = -1) (h2 : nxG L x (opp d) = -1) :
    Calls Tryd.prog 51 #[.pointer (some ⟨p, 0, none⟩), .int .i64 a, .int .i64 d, .int .i64 x, .int .i64 o] w (JoiP p v (joinG L a d x o) n w) := by
  have HA := Lib.hid (hasY (a : Int) h)
  have HY := Lib.hid (hasY (x : Int) h)
  have GD := Lib.hid (kept (good_any (d : Int) w))
  have CQ := Lib.hid (contraryQ d)
  have q0 : hasB n (a : Int) = true := hasB_t (by omega)
  have q1 : hasB n (x : Int) = true := hasB_t (by omega)
  have q2 : ((a : Int) == (x : Int)) = false := by rw [beq_eq_false_iff_ne]; omega
  have q2' : (a == x) = false := by rw [beq_eq_false_iff_ne]; exact hax
  have q3 : goodB (d : Int) = true := goodB_t (by omega) (by omega)
  have q4 : decide (o < -2) = false := by rw [decide_eq_false_iff_not]; omega
  obtain ⟨g, cap, rfl, -, -⟩ := h.some_ (by omega)
  have c0 := h.c0
  have f1 := (h.side ha hd).1
  have f2 := (h.side hx (opp_lt d)).1
  have H := Lib.hid h
  have ho4 := opp_lt d
  rw [h1] at f1
  rw [h2] at f2
  clear h h1 h2 hax ho
  generalize opp d = d2 at *
  go_enter Tryd.func51, Tryd.ntmps51
  go_wp2_with (first | (go_at_call 46; refine GD.out.mono ?_; rintro e w' ⟨rfl, rfl⟩) | (go_at_call 55; ((with_reducible refine HA.out.mono ?_); rintro e w' ⟨rfl, rfl⟩)) | (go_at_call 55; ((with_reducible refine HY.out.mono ?_); rintro e w' ⟨rfl, rfl⟩)))
  go_quiet ((go_at_call 56; exact Calls.quiet_of_same (CQ.out _ hd)))
  go_wp2_with (go_at_call 57; refine (linkY (H.out.below (drewN_below (Below.refl _ _) _)) a d x o ha hx hd).mono ?_; rintro e w3 ⟨rfl, G, O⟩; have K3 := Lib.hid G; have O3 := Lib.hid O; clear G O)
  go_ret
  obtain ⟨OA, FA⟩ := turned_more (Out.ofBelow (S := FootG p (.slice (some ⟨g, 0, none⟩) n cap)) (drewN_below (Below.refl w.heap.size w) _)) (fun _ e => Or.inl e) (O3.out.mono (S' := FootG p (.slice (some ⟨g, 0, none⟩) n cap)) (fun i _ e => Or.inr (by rw [e]; rfl))) (v2 := .slice (some ⟨g, 0, none⟩) n cap) (fun _ e => Or.inl e)
  exact ⟨rfl, _, K3.out, OA, FA⟩
end Go.Proofs.YtecifgaekefkpaaDoor
