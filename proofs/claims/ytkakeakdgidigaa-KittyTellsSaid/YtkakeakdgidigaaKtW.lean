/-
  What the document fixes of corners is so: the law's 'wakes' answers true. Conditions: none.
-/
import Derived.Test.YtkakeakdgidigaaKtD
import Derived.Test.YtkakeakdgidigaaKtH
import Derived.Laws.StructEq
namespace Go.Proofs.Ytkakeakdgidigaa.KtM

def plusT : List Int := [-1, 1, 1, -1, 1, 1, -1, 1, 1, -1, 1, 1]
def oneT : List Int := [-1, 1, 1, 1, 1, 1]
theorem plus_pair : prA plusT = ((0, 0), (6, 0), true) := by
  have h : FstP plusT 0 2 := ⟨by decide +kernel, by decide +kernel, by decide +kernel, fun j hj => absurd hj (by omega), by decide +kernel⟩
  rw [prA_of h]
  decide +kernel
theorem one_pair : prA oneT = ((0, 0), (0, 0), false) := by
  apply NoP.none
  have key : ∀ j, j < 1 → ∀ r, r < 1 → rotA oneT j r ≠ 2 := by decide +kernel
  have hl : (crns oneT).length = 1 := by decide +kernel
  intro j hj r hr
  rw [hl] at hj hr
  exact key j hj r hr
end Go.Proofs.Ytkakeakdgidigaa.KtM
namespace Go.Proofs.Ytkakeakdgidigaa
open Go.RowKit Go.Proofs.Ytkakeakdgidigaa.KtM

theorem heldK15 : Try.prog.stoodInHeld 24 = false := by kernel_rfl
theorem eqK15 (w : World) (a0 a1 b0 b1 : Int) : (binOp .eql 24 (.agg #[.int .i64 a0, .int .i64 a1]) (.agg #[.int .i64 b0, .int .i64 b1])).run Try.prog w = .ok (.bool (a0 == b0 && a1 == b1)) w := by
  have hu := Try.underlying24
  have hi := Try.underlying3
  rw [run_eql_struct]
  have h := run_equalIn_agg (P := Try.prog) w 9999 24 #[.int .i64 a0, .int .i64 a1] #[.int .i64 b0, .int .i64 b1] (by kernel_rfl) heldK15
  rw [h]
  unfold Program.fieldsOf
  rw [hu]
  simp [Op.eqFields, go_sem]
  by_cases h0 : a0 = b0
  · by_cases h1 : a1 = b1
    · simp [h0, h1]
    · simp [h0, h1]
  · simp [h0]
theorem two_boxes {w w1 : World} {T : TypeId} {a0 a1 b0 b1 : Int} (hw : (w.alloc (.cells #[.int .i64 a0, .int .i64 a1] T)).alloc (.cells #[.int .i64 b0, .int .i64 b1] T) = w1) : BoxS w.heap.size T w1 a0 a1 b0 b1 ∧ Below w.heap.size w w1 := by
  subst hw
  refine ⟨⟨?_, ?_⟩, (below_alloc15 _ _).trans ((below_alloc15 _ _).mono (by simp))⟩
  · rw [Below.heap_alloc _ _ _ (by simp)]; exact heap_alloc_new w _
  · have := heap_alloc_new (w.alloc (.cells #[.int .i64 a0, .int .i64 a1] T)) (.cells #[.int .i64 b0, .int .i64 b1] T)
    simpa using this
set_option maxHeartbeats 8000000 in
set_option maxRecDepth 100000 in
theorem wakes15 (w : World) : Calls Try.prog 15 #[] w fun e w' => e = .returned (.bool true) ∧ Below w.heap.size w w' := by
  have P1 : Hid (∀ zv w, ZiAt w zv plusT 12 → Calls Try.prog 12 #[zv] w fun e w' => e = .returned (.tuple #[.agg #[.int .i64 0, .int .i64 0], .agg #[.int .i64 6, .int .i64 0], .bool true]) ∧ Below w.heap.size w w') := Lib.hid (fun zv w hZ => by
    have h := Pair15 zv plusT 12 w hZ (by decide)
    rw [if_pos (by decide), plus_pair] at h
    exact h)
  have P2 : Hid (∀ zv w, ZiAt w zv oneT 6 → Calls Try.prog 12 #[zv] w fun e w' => e = .returned (.tuple #[.agg #[.int .i64 0, .int .i64 0], .agg #[.int .i64 0, .int .i64 0], .bool false]) ∧ Below w.heap.size w w') := Lib.hid (fun zv w hZ => by
    have h := Pair15 zv oneT 6 w hZ (by decide)
    rw [if_pos (by decide), one_pair] at h
    exact h)
  have R1 : Hid (∀ zv w, ZcAt w zv [-2, -2] 2 → Calls Try.prog 10 #[zv, .agg #[.int .i64 0, .int .i64 0], .agg #[.int .i64 1, .int .i64 0]] w fun e w' => e = .returned (.tuple #[.int .i64 (-2), .int .i64 0]) ∧ Below w.heap.size w w') := Lib.hid (fun zv w hZ => by
    have h := rotYes15 zv [-2, -2] 2 0 0 1 0 w hZ (by decide) (good_iff.1 (by decide)) (by decide) (by decide)
    rw [show rotC [-2, -2] (0, 0) (1, 0) = -2 by decide] at h
    exact h)
  have R2 : Hid (∀ zv w, ZiAt w zv [1] 1 → Calls Try.prog 10 #[zv, .agg #[.int .i64 0, .int .i64 0], .agg #[.int .i64 0, .int .i64 0]] w fun e w' => e = .returned (.tuple #[.int .i64 0, .int .i64 2]) ∧ Below w.heap.size w w') := Lib.hid (fun zv w hZ =>
    rotNo15 zv [1] 1 0 0 0 0 w hZ (by decide) (by decide))
  go_enter Try.func15, Try.ntmps15
  go_upto_region 2 with (go_at_call 12; refine (P1.out _ _ (ziNew15 _ _ plusT 12 rfl 3 (heap_alloc_new _ _))).mono ?_; rintro e w1 ⟨rfl, b1⟩; have B1 := Lib.hid ((below_alloc15 _ _).trans (b1.mono (by simp))); clear b1)
  obtain ⟨w2, hw2⟩ : ∃ W, (w1.alloc (.cells #[.int .i64 0, .int .i64 0] 24)).alloc (.cells #[.int .i64 6, .int .i64 0] 24) = W := ⟨_, rfl⟩
  obtain ⟨s2, b2⟩ := two_boxes hw2
  rw [hw2]
  have B2 := Lib.hid (B1.out.trans (b2.mono B1.out.size))
  have S2 := Lib.hid s2
  obtain ⟨g, hgg⟩ : ∃ g, w1.heap.size = g := ⟨_, rfl⟩
  rw [hgg] at S2 ⊢
  clear hw2 s2 b2 hgg P1
  go_upto_region 4 with (first
    | (go_at_call 10; have _z := B3; refine (R2.out _ _ (ziNew15 _ _ [1] 1 rfl 3 (heap_alloc_new _ _))).mono ?_; rintro e w4 ⟨rfl, b4⟩; have C4 := Lib.hid (C3.out.trans (((below_alloc15 _ _).trans (b4.mono (by simp))).mono C3.out.size)); clear b4)
    | (go_at_call 10; refine (R1.out _ _ ⟨ziNew15 _ _ [-2, -2] 2 rfl 3 (heap_alloc_new _ _), _, _, rfl, Nat.le_refl _⟩).mono ?_; rintro e w3 ⟨rfl, b3⟩; have B3 := Lib.hid b3; have C3 := Lib.hid ((below_alloc15 _ _).trans (b3.mono (by simp))); clear b3))
  clear B3 C3
  go_upto_region 5 with (go_at_call 12; refine (P2.out _ _ (ziNew15 _ _ oneT 6 rfl 3 (heap_alloc_new _ _))).mono ?_; rintro e w5 ⟨rfl, b5⟩; have C5 := Lib.hid (C4.out.trans (((below_alloc15 _ _).trans (b5.mono (by simp))).mono C4.out.size)); clear b5)
  obtain ⟨w6, hw6⟩ : ∃ W, (w5.alloc (.cells #[.int .i64 0, .int .i64 0] 24)).alloc (.cells #[.int .i64 0, .int .i64 0] 24) = W := ⟨_, rfl⟩
  obtain ⟨-, b6⟩ := two_boxes hw6
  rw [hw6]
  have C6 := Lib.hid (C5.out.trans (b6.mono C5.out.size))
  have s6 := S2.out.below C6.out
  obtain ⟨⟨x0, x1, y0, y1⟩, -, hgb⟩ := s6.cells
  have hgb2 : g < w6.heap.size := by omega
  have e0 := fun w => eqK15 w 0 0 0 0
  have e1 := fun w => eqK15 w 6 0 6 0
  clear hw6 b6 s6 C4 C5
  go_wp2_with fail
  go_ret
  exact ⟨rfl, B2.out.trans (C6.out.mono B2.out.size)⟩
end Go.Proofs.Ytkakeakdgidigaa
