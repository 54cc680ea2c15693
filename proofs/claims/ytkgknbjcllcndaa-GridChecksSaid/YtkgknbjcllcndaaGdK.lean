/-
  What the document fixes of a grid: wakes answers true. Conditions: none.
-/
import Derived.Test.YtkgknbjcllcndaaGdH
namespace Go.Proofs.Ytkgknbjcllcndaa
open Go.RowKit Go.Proofs.Ytkgknbjcllcndaa.GrM

theorem cel_lit (w : World) (T : TypeId) (L : List Int) (n : Nat) (hl : L.length = n * 8) : CelAt (w.alloc (.cells (L.map intV).toArray T)) (.slice (some ⟨w.heap.size, 0, none⟩) n n) L n := by
  refine ⟨hl, _, n, rfl, ⟨Nat.le_refl _, fun e => by cases e⟩, fun _ => ⟨w.heap.size, 0, rfl, by simp, fun j hj => ?_⟩⟩
  have h := heap_alloc_new w (.cells (L.map intV).toArray T)
  have hj' : j < L.length := by omega
  rw [Nat.zero_add]
  simp only [World.cell?, h]
  simp [intV, hj', List.getD_eq_getElem?_getD]
def wk1 : List Int := joinG (newG 2) 0 0 1 0
def wk2 : List Int := splitG wk1 2 0 0 1 (owG wk1 0 0)
def wk0 : List Int := [0, 0, 0, 0, 0, 0, 0, 0]
theorem wk_of {w w' : World} {p n : Nat} {v : Value} {L : List Int} (B : Nat) (h : Turned p v L n w w') (hb : ∀ b, FootG p v b → B ≤ b) (hB : B ≤ w.heap.size) : ∃ v', GrdAt w' p v' L n ∧ (∀ b, FootG p v' b → B ≤ b) ∧ RowKit.Below B w w' := by
  obtain ⟨v', G, O, F⟩ := h
  refine ⟨v', G, ?_, O.below hB (fun i _ e => hb i e)⟩
  rintro b (rfl | e)
  · exact hb _ (Or.inl rfl)
  · rcases F b e with e | e
    · exact hb b (Or.inr e)
    · omega
set_option maxHeartbeats 4000000 in
set_option maxRecDepth 100000 in
theorem wakes10 (w : World) : Calls Try.prog 10 #[] w fun e w' => e = .returned (.bool true) ∧ Below w.heap.size w w' := by
  have N2 : ∀ w, Calls Try.prog 8 #[.int .i64 2] w (MadeG (newG 2) 2 w) := fun w => newY 2 w (by decide)
  have NN : ∀ w, Calls Try.prog 8 #[.int .i64 (-1)] w fun e w' => e = .returned (.tuple #[.pointer none, .int .i64 2]) ∧ w = w' := fun w => newNeg (-1) w (by decide)
  have J1 : ∀ {w p v}, GrdAt w p v (newG 2) 2 → Calls Try.prog 15 #[.pointer (some ⟨p, 0, none⟩), .int .i64 0, .int .i64 0, .int .i64 1, .int .i64 0] w (JoiP p v wk1 2 w) := fun h => joinYes h 0 0 1 0 (by decide) (by decide) (by decide) (by decide) (by decide) (by decide) (by decide)
  have S1 : ∀ {w p v}, GrdAt w p v wk1 2 → Calls Try.prog 11 #[.pointer (some ⟨p, 0, none⟩), .int .i64 0, .int .i64 0] w (SplP p v wk2 2 w) := fun h => splitYes h 0 0 1 (by decide) (by decide) (by decide) (by decide) (by decide)
  have X1 : ∀ {w p v}, GrdAt w p v wk2 3 → Calls Try.prog 17 #[.pointer (some ⟨p, 0, none⟩), .int .i64 2, .int .i64 0] w fun e w' => e = .returned (.tuple #[.int .i64 1, .int .i64 0, .bool true]) ∧ RowKit.Below w.heap.size w w' := fun h => nextY h 2 0
  have C1 : ∀ (w : World) (T : TypeId), Calls Try.prog 24 #[.slice (some ⟨w.heap.size, 0, none⟩) 1 1] (w.alloc (.cells #[.int .i64 0, .int .i64 0, .int .i64 0, .int .i64 0, .int .i64 0, .int .i64 0, .int .i64 0, .int .i64 0] T)) fun e w' => e = .returned (.int .i64 3) ∧ RowKit.Below (w.alloc (.cells #[.int .i64 0, .int .i64 0, .int .i64 0, .int .i64 0, .int .i64 0, .int .i64 0, .int .i64 0, .int .i64 0] T)).heap.size (w.alloc (.cells #[.int .i64 0, .int .i64 0, .int .i64 0, .int .i64 0, .int .i64 0, .int .i64 0, .int .i64 0, .int .i64 0] T)) w' := fun w T => checkY _ wk0 1 _ (cel_lit w T wk0 1 rfl) (by decide)
  have HN2 := Lib.hid N2
  have HNN := Lib.hid NN
  have HJ1 : Hid (∀ w p v, GrdAt w p v (newG 2) 2 → Calls Try.prog 15 #[.pointer (some ⟨p, 0, none⟩), .int .i64 0, .int .i64 0, .int .i64 1, .int .i64 0] w (JoiP p v wk1 2 w)) := Lib.hid (fun _ _ _ h => J1 h)
  have HS1 : Hid (∀ w p v, GrdAt w p v wk1 2 → Calls Try.prog 11 #[.pointer (some ⟨p, 0, none⟩), .int .i64 0, .int .i64 0] w (SplP p v wk2 2 w)) := Lib.hid (fun _ _ _ h => S1 h)
  have HX1 : Hid (∀ w p v, GrdAt w p v wk2 3 → Calls Try.prog 17 #[.pointer (some ⟨p, 0, none⟩), .int .i64 2, .int .i64 0] w fun e w' => e = .returned (.tuple #[.int .i64 1, .int .i64 0, .bool true]) ∧ RowKit.Below w.heap.size w w') := Lib.hid (fun _ _ _ h => X1 h)
  have HC1 := Lib.hid C1
  clear N2 NN J1 S1 X1 C1
  go_enter Try.func10, Try.ntmps10
  go_wp2_with (first
    | (go_at_call 24; refine (HC1.out _ _).mono ?_; rintro e w6 ⟨rfl, b6⟩; have B6 := Lib.hid b6; clear b6)
    | (go_at_call 17; refine (HX1.out _ _ _ G3.out).mono ?_; rintro e w4 ⟨rfl, b4⟩; have B4 := Lib.hid b4; clear b4)
    | (go_at_call 11; refine (HS1.out _ _ _ G2.out).mono ?_; rintro e w3 ⟨rfl, t3⟩; obtain ⟨v3, g3, f3, b3⟩ := wk_of w.heap.size t3 F2.out (Nat.le_trans B1.out.size B2.out.size); have G3 := Lib.hid g3; have B3 := Lib.hid b3; clear t3 g3 f3 b3)
    | (go_at_call 15; refine (HJ1.out _ _ _ G1.out).mono ?_; rintro e w2 ⟨rfl, t2⟩; obtain ⟨v2, g2, f2, b2⟩ := wk_of w.heap.size t2 F1.out B1.out.size; have G2 := Lib.hid g2; have F2 := Lib.hid f2; have B2 := Lib.hid b2; clear t2 g2 f2 b2)
    | (go_at_call 8; ((with_reducible refine (HNN.out _).mono ?_); rintro e w5 ⟨rfl, rfl⟩))
    | (go_at_call 8; ((with_reducible refine (HN2.out _).mono ?_); rintro e w1 ⟨p, v1, rfl, g1, f1, b1⟩); have G1 := Lib.hid g1; have F1 := Lib.hid f1; have B1 := Lib.hid b1; clear g1 f1 b1))
  go_ret
  have h3 := (B1.out.trans B2.out).trans B3.out
  have h4 := h3.trans (B4.out.mono h3.size)
  exact ⟨rfl, (h4.alloc h4.size _).trans (B6.out.mono (by have := h4.size; simp; omega))⟩
end Go.Proofs.Ytkgknbjcllcndaa
