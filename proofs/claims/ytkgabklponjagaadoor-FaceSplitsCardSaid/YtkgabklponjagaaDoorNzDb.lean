/-
  A grid: what Next, Add and the nil grid answer. Conditions: at most 100000 cells.
  A grid: what Split and Join answer and leave. Conditions: at most 4096 cells, or a wrong argument.
-/
import Derived.Test.YtkgabklponjagaaDoorNzDa
import Derived.Test.YtkgabklponjagaaDoorNzRb
import Derived.Test.YtkgabklponjagaaDoorNzRc
namespace Go.Proofs.YtkgabklponjagaaDoor
open Go.RowKit Go.Proofs.YtkgabklponjagaaDoor.GrM

theorem GrdAt.side {w : World} {p n g cap : Nat} {L : List Int} (h : GrdAt w p (.slice (some ⟨g, 0, none⟩) n cap) L n) {a d : Nat} (ha : a < n) (hd : d < 4) :
    w.cell? ⟨g, a * 8 + d, none⟩ = some (.int .i64 (nxG L a d)) ∧ w.cell? ⟨g, a * 8 + 4 + d, none⟩ = some (.int .i64 (owG L a d)) := by
  obtain ⟨b, o, c, e, _, h1, h2⟩ := h.cel.nth ha
  simp only [Value.slice.injEq, Option.some.injEq, Addr.mk.injEq, true_and, and_true] at e
  obtain ⟨⟨rfl, rfl⟩, rfl⟩ := e
  have r1 := h1 d hd
  have r2 := h2 d hd
  rw [Nat.zero_add] at r1 r2
  exact ⟨r1, r2⟩
/-- Is there a next one? -/
def stepB (L : List Int) (n : Nat) (x d : Int) : Bool := hasB n x && (goodB d && decide (nxG L x.toNat d.toNat ≠ -1))
def stepN (L : List Int) (n : Nat) (x d : Int) : Int := if stepB L n x d = true then nxG L x.toNat d.toNat else 0
def stepO (L : List Int) (n : Nat) (x d : Int) : Int := if stepB L n x d = true then owG L x.toNat d.toNat else 0
theorem step_no {L : List Int} {n : Nat} {x d : Int} (h : stepB L n x d = false) : stepN L n x d = 0 ∧ stepO L n x d = 0 := by
  unfold stepN stepO; rw [h]; exact ⟨rfl, rfl⟩
theorem step_yes {L : List Int} {n a e : Nat} (ha : a < n) (he : e < 4) (h : nxG L a e ≠ -1) : stepB L n a e = true ∧ stepN L n a e = nxG L a e ∧ stepO L n a e = owG L a e := by
  have hb : stepB L n a e = true := by
    unfold stepB
    rw [hasB_t (by omega), goodB_t (by omega) (by omega), Int.toNat_natCast, Int.toNat_natCast, decide_eq_true h]; rfl
  refine ⟨hb, ?_, ?_⟩
  · unfold stepN; rw [if_pos hb, Int.toNat_natCast, Int.toNat_natCast]
  · unfold stepO; rw [if_pos hb, Int.toNat_natCast, Int.toNat_natCast]
theorem step_free {L : List Int} {n a e : Nat} (h : nxG L a e = -1) : stepB L n a e = false := by
  unfold stepB
  rw [Int.toNat_natCast, Int.toNat_natCast, h]; simp
set_option maxHeartbeats 4000000 in
set_option maxRecDepth 100000 in
theorem nextY {w : World} {p n : Nat} {v : Value} {L : List Int} (h : GrdAt w p v L n) (x d : Int) :
    Calls Tryd.prog 41 #[.pointer (some ⟨p, 0, none⟩), .int .i64 x, .int .i64 d] w fun e w' =>
      e = .returned (.tuple #[.int .i64 (stepN L n x d), .int .i64 (stepO L n x d), .bool (stepB L n x d)]) ∧ RowKit.Below w.heap.size w w' := by
  have HA := Lib.hid (hasY x h)
  have GD := Lib.hid (kept (good_any d w))
  by_cases hx : 0 ≤ x ∧ x < n
  · have q0 := hasB_t hx
    by_cases hd : 0 ≤ d ∧ d < 4
    · have q1 := goodB_t hd.1 hd.2
      obtain ⟨a, rfl⟩ : ∃ a : Nat, x = a := ⟨x.toNat, by omega⟩
      obtain ⟨e, rfl⟩ : ∃ e : Nat, d = e := ⟨d.toNat, by omega⟩
      have ha : a < n := by omega
      have he : e < 4 := by omega
      obtain ⟨g, cap, rfl, -, -⟩ := h.some_ (by omega)
      have h1 := h.c0
      obtain ⟨f1, f2⟩ := h.side ha he
      by_cases hn : nxG L a e = -1
      · have SB := step_free (n := n) hn
        obtain ⟨S1, S2⟩ := step_no SB
        rw [S1, S2, SB]
        rw [hn] at f1
        clear SB S1 S2 hn hx hd h
        go_enter Tryd.func41, Tryd.ntmps41
        go_wp2_with (first | (go_at_call 49; refine GD.out.mono ?_; rintro e w' ⟨rfl, rfl⟩) | (go_at_call 48; refine HA.out.mono ?_; rintro e w' ⟨rfl, rfl⟩))
        go_ret3
        exact ⟨rfl, Below.refl _ _⟩
      · obtain ⟨SB, S1, S2⟩ := step_yes ha he hn
        rw [S1, S2, SB]
        have q2 : (nxG L a e == -1) = false := by rw [beq_eq_false_iff_ne]; exact hn
        clear SB S1 S2 hn hx hd h
        generalize nxG L a e = y1 at *
        generalize owG L a e = y2 at *
        go_enter Tryd.func41, Tryd.ntmps41
        go_wp2_with (first | (go_at_call 49; refine GD.out.mono ?_; rintro e w' ⟨rfl, rfl⟩) | (go_at_call 48; refine HA.out.mono ?_; rintro e w' ⟨rfl, rfl⟩))
        go_quiet (fail)
        go_wp2_with fail
        go_ret3
        exact ⟨rfl, drewN_below (Below.refl _ _) _⟩
    · have q1 := goodB_f hd
      have SB : stepB L n x d = false := by unfold stepB; rw [q1]; simp
      obtain ⟨S1, S2⟩ := step_no SB
      rw [S1, S2, SB]
      clear SB S1 S2 hx hd h
      go_enter Tryd.func41, Tryd.ntmps41
      go_wp2_with (first | (go_at_call 49; refine GD.out.mono ?_; rintro e w' ⟨rfl, rfl⟩) | (go_at_call 48; refine HA.out.mono ?_; rintro e w' ⟨rfl, rfl⟩))
      go_ret3
      exact ⟨rfl, Below.refl _ _⟩
  · have q0 := hasB_f hx
    have SB : stepB L n x d = false := by unfold stepB; rw [q0]; rfl
    obtain ⟨S1, S2⟩ := step_no SB
    rw [S1, S2, SB]
    clear SB S1 S2 hx h
    go_enter Tryd.func41, Tryd.ntmps41
    go_wp2_with (go_at_call 48; refine HA.out.mono ?_; rintro e w' ⟨rfl, rfl⟩)
    go_ret3
    exact ⟨rfl, Below.refl _ _⟩
set_option maxHeartbeats 4000000 in
theorem nextN (x d : Int) (w : World) : Calls Tryd.prog 41 #[.pointer none, .int .i64 x, .int .i64 d] w fun e w' => e = .returned (.tuple #[.int .i64 0, .int .i64 0, .bool false]) ∧ w = w' := by
  have HA := Lib.hid (hasN x w)
  go_enter Tryd.func41, Tryd.ntmps41
  go_wp2_with (go_at_call 48; refine HA.out.mono ?_; rintro e w' ⟨rfl, rfl⟩)
  go_ret3
  exact ⟨rfl, rfl⟩
def AddP (p : Nat) (v : Value) (L : List Int) (n : Nat) (w : World) (e : Ending) (w' : World) : Prop :=
  e = .returned (.tuple #[.int .i64 n, .int .i64 0]) ∧ Turned p v (L ++ freeC) (n + 1) w w'






end Go.Proofs.YtkgabklponjagaaDoor

namespace Go.Proofs.YtkgabklponjagaaDoor
open Go.RowKit Go.Proofs.YtkgabklponjagaaDoor.GrM

theorem turned_more {w w1 w2 : World} {p : Nat} {v v1 v2 : Value} (O1 : Out (FootG p v) w w1) (F1 : ∀ b, v1.ownBlock = some b → v.ownBlock = some b ∨ w.heap.size ≤ b) (O2 : Out (FootG p v1) w1 w2) (F2 : ∀ b, v2.ownBlock = some b → v1.ownBlock = some b ∨ w1.heap.size ≤ b) :
    Out (FootG p v) w w2 ∧ ∀ b, v2.ownBlock = some b → v.ownBlock = some b ∨ w.heap.size ≤ b := by
  refine ⟨O1.trans O2 (fun i hi e => ?_), fun b hb => ?_⟩
  · rcases e with e | e
    · exact Or.inl e
    · rcases F1 i e with h | h
      · exact Or.inr h
      · omega
  · rcases F2 b hb with h | h
    · exact F1 b h
    · exact Or.inr (Nat.le_trans O1.size h)
theorem Turned.same {w w' : World} {p n : Nat} {v : Value} {L : List Int} (h : GrdAt w p v L n) (hb : RowKit.Below w.heap.size w w') : Turned p v L n w w' :=
  ⟨v, h.below hb, Out.ofBelow hb, fun _ e => Or.inl e⟩
theorem Turned.trans {w w1 w2 : World} {p n m : Nat} {v : Value} {L M : List Int} (h : Turned p v L n w w1) (k : ∀ v1, GrdAt w1 p v1 L n → Turned p v1 M m w1 w2) : Turned p v M m w w2 := by
  obtain ⟨v1, G1, O1, F1⟩ := h
  obtain ⟨v2, G2, O2, F2⟩ := k v1 G1
  obtain ⟨O, F⟩ := turned_more O1 F1 O2 F2
  exact ⟨v2, G2, O, F⟩
def SplP (p : Nat) (v : Value) (M : List Int) (n : Nat) (w : World) (e : Ending) (w' : World) : Prop :=
  e = .returned (.tuple #[.int .i64 n, .int .i64 0]) ∧ Turned p v M (n + 1) w w'






theorem contraryQ (d : Nat) (w : World) (hd : d < 4) : Calls Tryd.prog 62 #[.int .i64 d] w fun e w' => e = .returned (.int .i64 (opp d)) ∧ w' = w :=
  (contraryY d w hd).mono fun _ _ ⟨a, b⟩ => ⟨a, b.symm⟩
def JoiP (p : Nat) (v : Value) (M : List Int) (n : Nat) (w : World) (e : Ending) (w' : World) : Prop :=
  e = .returned (.int .i64 0) ∧ Turned p v M n w w'



end Go.Proofs.YtkgabklponjagaaDoor
