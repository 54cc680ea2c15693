/-
  CompassBetween: the walk: at every two points and every choice the call answers true and turns nothing that was there. Conditions: the world holds the two tables.
-/
import Derived.Test.YtnfaebcbcmodmaaDoorCompassC
namespace Go.Proofs.YtnfaebcbcmodmaaDoor
open Go.RowKit

theorem btw_cases (ax ay bx b : Int) : (btwI ax ay bx b = -1 ∧ btwI bx b ax ay = -1) ∨ (btwI ax ay bx b = 0 ∧ btwI bx b ax ay = 2) ∨ (btwI ax ay bx b = 1 ∧ btwI bx b ax ay = 3) ∨ (btwI ax ay bx b = 2 ∧ btwI bx b ax ay = 0) ∨ (btwI ax ay bx b = 3 ∧ btwI bx b ax ay = 1) := by
  unfold btwI
  by_cases e1 : ax = bx
  · by_cases e2 : ay = b
    · simp [e1, e2]
    · have n1 : ¬ ax < bx := by omega
      have n2 : ¬ bx < ax := by omega
      have c1 : (ax == bx) = true := by simpa using e1
      have c2 : (ay == b) = false := by simpa using e2
      have c3 : (bx == ax) = true := by simpa using e1.symm
      have c4 : (b == ay) = false := by simpa using Ne.symm e2
      rw [c1, c2, c3, c4, if_neg n1, if_neg n1, if_neg n2, if_neg n2]
      by_cases h : ay < b
      · have n3 : ¬ b < ay := by omega
        simp [h, n3]
      · have n3 : b < ay := by omega
        simp [h, n3]
  · by_cases e2 : ay = b
    · have c1 : (ax == bx) = false := by simpa using e1
      have c2 : (ay == b) = true := by simpa using e2
      have c3 : (bx == ax) = false := by simpa using Ne.symm e1
      have c4 : (b == ay) = true := by simpa using e2.symm
      have n1 : ¬ ay < b := by omega
      have n2 : ¬ b < ay := by omega
      rw [c1, c2, c3, c4]
      by_cases h : ax < bx
      · have n3 : ¬ bx < ax := by omega
        simp [h, n2, n3]
      · have n3 : bx < ax := by omega
        simp [h, n1, n3]
    · have c1 : (ax == bx) = false := by simpa using e1
      have c2 : (ay == b) = false := by simpa using e2
      have c3 : (bx == ax) = false := by simpa using Ne.symm e1
      have c4 : (b == ay) = false := by simpa using Ne.symm e2
      rw [c1, c2, c3, c4]
      simp


set_option maxHeartbeats 400000 in
theorem between_0 (ax ay bx b wh : Int) (w : World) (hT : Tabs w) (hw0 : 0 ≤ wh) (hw1 : wh ≤ 255) (h3 : (wh % 3 == 0) = true) : Calls Tryd.prog 5 #[.agg #[.int .i64 ax, .int .i64 ay], .agg #[.int .i64 bx, .int .i64 b], .int .u8 wh] w fun r w' => r = .returned (.bool true) ∧ Below w.heap.size w w' := by
  have HT := Lib.hid hT
  have hr2 := hT.room
  clear hT
  rcases btw_cases ax ay ax b with ⟨hk, hl⟩ | ⟨hk, hl⟩ | ⟨hk, hl⟩ | ⟨hk, hl⟩ | ⟨hk, hl⟩
  all_goals
    have K := Lib.hid hk
    have L := Lib.hid hl
    clear hk hl
    have d0 : dirD (-1) = 0 := rfl
    have d1 : dirD 0 = 0 := rfl
    have d2 : dirD 1 = 1 := rfl
    have d3 : dirD 2 = 2 := rfl
    have d4 : dirD 3 = 3 := rfl
    have o0 : dirB (-1) = false := rfl
    have o1 : dirB 0 = true := rfl
    have o2 : dirB 1 = true := rfl
    have o3 : dirB 2 = true := rfl
    have o4 : dirB 3 = true := rfl
    have l0 : leftI 0 2 = 2 := rfl
    have l1 : leftI 1 2 = 3 := rfl
    have l2 : leftI 2 2 = 0 := rfl
    have l3 : leftI 3 2 = 1 := rfl
    go_enter Tryd.func5, Tryd.ntmps5
    go_wp2_with (first
      | (go_at_call 18; with_reducible refine (between_k _ _ _ _ _ _ _ _ K.out rfl rfl).mono ?_; rintro e w1 ⟨rfl, hb1⟩; obtain ⟨hc1, hf1⟩ := bcell hb1; (try simp at hf1); have z1 : w.heap.size < w1.heap.size := (by omega); have y1 : w.heap.size + 1 < w1.heap.size := (by omega); have Q1 : Hid (Below w.heap.size w w1) := Lib.hid ((((Below.refl _ _).alloc (Nat.le_refl _) _).alloc (by simp) _).trans (hb1.mono (by simp; omega))); clear hb1 hf1)
      | (go_at_call 18; with_reducible refine (between_k _ _ _ _ _ _ _ _ L.out rfl rfl).mono ?_; rintro e w2 ⟨rfl, hb2⟩; obtain ⟨hc2, hf2⟩ := bcell hb2; have z2 : w.heap.size < w2.heap.size := (by omega); have y2 : w.heap.size + 1 < w2.heap.size := (by omega); have Q2 : Hid (Below w.heap.size w w2) := Lib.hid (Q1.out.trans (hb2.mono (by omega))); clear hb2 hf2)
      | (go_at_call 20; with_reducible refine (rbetween_k _ _ _ _ _ _ K.out).mono ?_; rintro e w3 ⟨rfl, hb3⟩; have hf3 := hb3.size; have z3 : w.heap.size < w3.heap.size := (by omega); have Q3 : Hid (Below w.heap.size w w3) := Lib.hid (Q2.out.trans (hb3.mono (by omega))); clear hb3 hf3)
      | (go_at_call 11; refine (rleft_any _ _ _).mono ?_; rintro e w' ⟨rfl, rfl⟩)
      | (go_at_call 14; refine (wakes_any _ (HT.out.below Q3.out hr2)).mono ?_; rintro e w4 ⟨rfl, hb4⟩; have Q4 : Hid (Below w.heap.size w w4) := Lib.hid (Q3.out.trans (hb4.mono (by omega))); clear hb4))
    go_ret
    exact ⟨rfl, Q4.out⟩

set_option maxHeartbeats 400000 in
theorem between_1 (ax ay bx b wh : Int) (w : World) (hT : Tabs w) (hw0 : 0 ≤ wh) (hw1 : wh ≤ 255) (h2 : (wh % 3 == 0) = false) (h3 : (wh % 3 == 1) = true) : Calls Tryd.prog 5 #[.agg #[.int .i64 ax, .int .i64 ay], .agg #[.int .i64 bx, .int .i64 b], .int .u8 wh] w fun r w' => r = .returned (.bool true) ∧ Below w.heap.size w w' := by
  have HT := Lib.hid hT
  have hr2 := hT.room
  clear hT
  rcases btw_cases ax ay bx ay with ⟨hk, hl⟩ | ⟨hk, hl⟩ | ⟨hk, hl⟩ | ⟨hk, hl⟩ | ⟨hk, hl⟩
  all_goals
    have K := Lib.hid hk
    have L := Lib.hid hl
    clear hk hl
    have d0 : dirD (-1) = 0 := rfl
    have d1 : dirD 0 = 0 := rfl
    have d2 : dirD 1 = 1 := rfl
    have d3 : dirD 2 = 2 := rfl
    have d4 : dirD 3 = 3 := rfl
    have o0 : dirB (-1) = false := rfl
    have o1 : dirB 0 = true := rfl
    have o2 : dirB 1 = true := rfl
    have o3 : dirB 2 = true := rfl
    have o4 : dirB 3 = true := rfl
    have l0 : leftI 0 2 = 2 := rfl
    have l1 : leftI 1 2 = 3 := rfl
    have l2 : leftI 2 2 = 0 := rfl
    have l3 : leftI 3 2 = 1 := rfl
    go_enter Tryd.func5, Tryd.ntmps5
    go_wp2_with (first
      | (go_at_call 18; with_reducible refine (between_k _ _ _ _ _ _ _ _ K.out rfl rfl).mono ?_; rintro e w1 ⟨rfl, hb1⟩; obtain ⟨hc1, hf1⟩ := bcell hb1; (try simp at hf1); have z1 : w.heap.size < w1.heap.size := (by omega); have y1 : w.heap.size + 1 < w1.heap.size := (by omega); have Q1 : Hid (Below w.heap.size w w1) := Lib.hid ((((Below.refl _ _).alloc (Nat.le_refl _) _).alloc (by simp) _).trans (hb1.mono (by simp; omega))); clear hb1 hf1)
      | (go_at_call 18; with_reducible refine (between_k _ _ _ _ _ _ _ _ L.out rfl rfl).mono ?_; rintro e w2 ⟨rfl, hb2⟩; obtain ⟨hc2, hf2⟩ := bcell hb2; have z2 : w.heap.size < w2.heap.size := (by omega); have y2 : w.heap.size + 1 < w2.heap.size := (by omega); have Q2 : Hid (Below w.heap.size w w2) := Lib.hid (Q1.out.trans (hb2.mono (by omega))); clear hb2 hf2)
      | (go_at_call 20; with_reducible refine (rbetween_k _ _ _ _ _ _ K.out).mono ?_; rintro e w3 ⟨rfl, hb3⟩; have hf3 := hb3.size; have z3 : w.heap.size < w3.heap.size := (by omega); have Q3 : Hid (Below w.heap.size w w3) := Lib.hid (Q2.out.trans (hb3.mono (by omega))); clear hb3 hf3)
      | (go_at_call 11; refine (rleft_any _ _ _).mono ?_; rintro e w' ⟨rfl, rfl⟩)
      | (go_at_call 14; refine (wakes_any _ (HT.out.below Q3.out hr2)).mono ?_; rintro e w4 ⟨rfl, hb4⟩; have Q4 : Hid (Below w.heap.size w w4) := Lib.hid (Q3.out.trans (hb4.mono (by omega))); clear hb4))
    go_ret
    exact ⟨rfl, Q4.out⟩

set_option maxHeartbeats 400000 in
theorem between_2 (ax ay bx b wh : Int) (w : World) (hT : Tabs w) (hw0 : 0 ≤ wh) (hw1 : wh ≤ 255) (h2 : (wh % 3 == 0) = false) (h3 : (wh % 3 == 1) = false) : Calls Tryd.prog 5 #[.agg #[.int .i64 ax, .int .i64 ay], .agg #[.int .i64 bx, .int .i64 b], .int .u8 wh] w fun r w' => r = .returned (.bool true) ∧ Below w.heap.size w w' := by
  have HT := Lib.hid hT
  have hr2 := hT.room
  clear hT
  rcases btw_cases ax ay bx b with ⟨hk, hl⟩ | ⟨hk, hl⟩ | ⟨hk, hl⟩ | ⟨hk, hl⟩ | ⟨hk, hl⟩
  all_goals
    have K := Lib.hid hk
    have L := Lib.hid hl
    clear hk hl
    have d0 : dirD (-1) = 0 := rfl
    have d1 : dirD 0 = 0 := rfl
    have d2 : dirD 1 = 1 := rfl
    have d3 : dirD 2 = 2 := rfl
    have d4 : dirD 3 = 3 := rfl
    have o0 : dirB (-1) = false := rfl
    have o1 : dirB 0 = true := rfl
    have o2 : dirB 1 = true := rfl
    have o3 : dirB 2 = true := rfl
    have o4 : dirB 3 = true := rfl
    have l0 : leftI 0 2 = 2 := rfl
    have l1 : leftI 1 2 = 3 := rfl
    have l2 : leftI 2 2 = 0 := rfl
    have l3 : leftI 3 2 = 1 := rfl
    go_enter Tryd.func5, Tryd.ntmps5
    go_wp2_with (first
      | (go_at_call 18; with_reducible refine (between_k _ _ _ _ _ _ _ _ K.out rfl rfl).mono ?_; rintro e w1 ⟨rfl, hb1⟩; obtain ⟨hc1, hf1⟩ := bcell hb1; (try simp at hf1); have z1 : w.heap.size < w1.heap.size := (by omega); have y1 : w.heap.size + 1 < w1.heap.size := (by omega); have Q1 : Hid (Below w.heap.size w w1) := Lib.hid ((((Below.refl _ _).alloc (Nat.le_refl _) _).alloc (by simp) _).trans (hb1.mono (by simp; omega))); clear hb1 hf1)
      | (go_at_call 18; with_reducible refine (between_k _ _ _ _ _ _ _ _ L.out rfl rfl).mono ?_; rintro e w2 ⟨rfl, hb2⟩; obtain ⟨hc2, hf2⟩ := bcell hb2; have z2 : w.heap.size < w2.heap.size := (by omega); have y2 : w.heap.size + 1 < w2.heap.size := (by omega); have Q2 : Hid (Below w.heap.size w w2) := Lib.hid (Q1.out.trans (hb2.mono (by omega))); clear hb2 hf2)
      | (go_at_call 20; with_reducible refine (rbetween_k _ _ _ _ _ _ K.out).mono ?_; rintro e w3 ⟨rfl, hb3⟩; have hf3 := hb3.size; have z3 : w.heap.size < w3.heap.size := (by omega); have Q3 : Hid (Below w.heap.size w w3) := Lib.hid (Q2.out.trans (hb3.mono (by omega))); clear hb3 hf3)
      | (go_at_call 11; refine (rleft_any _ _ _).mono ?_; rintro e w' ⟨rfl, rfl⟩)
      | (go_at_call 14; refine (wakes_any _ (HT.out.below Q3.out hr2)).mono ?_; rintro e w4 ⟨rfl, hb4⟩; have Q4 : Hid (Below w.heap.size w w4) := Lib.hid (Q3.out.trans (hb4.mono (by omega))); clear hb4))
    go_ret
    exact ⟨rfl, Q4.out⟩

theorem betweenlaw_any (ax ay bx b wh : Int) (w : World) (hT : Tabs w) (hw : 0 ≤ wh ∧ wh ≤ 255) : Calls Tryd.prog 5 #[.agg #[.int .i64 ax, .int .i64 ay], .agg #[.int .i64 bx, .int .i64 b], .int .u8 wh] w fun r w' => r = .returned (.bool true) ∧ Below w.heap.size w w' := by
  cases h0 : (wh % 3 == 0)
  · cases h1 : (wh % 3 == 1)
    · exact between_2 ax ay bx b wh w hT hw.1 hw.2 h0 h1
    · exact between_1 ax ay bx b wh w hT hw.1 hw.2 h0 h1
  · exact between_0 ax ay bx b wh w hT hw.1 hw.2 h0
end Go.Proofs.YtnfaebcbcmodmaaDoor
