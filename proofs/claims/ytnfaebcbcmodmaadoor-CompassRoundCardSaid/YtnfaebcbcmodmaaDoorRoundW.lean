/-
  CompassRound: the walk: at every two ints the call answers true and turns nothing that was there. Conditions: the world holds the two tables.
-/
import Derived.Test.YtnfaebcbcmodmaaDoorCompassC
namespace Go.Proofs.YtnfaebcbcmodmaaDoor
open Go.RowKit

theorem tmod1000 (t : Int) : -999 ≤ t.tmod 1000 ∧ t.tmod 1000 ≤ 999 := by
  rcases Int.le_total 0 t with h | h
  · rw [Int.tmod_eq_emod_of_nonneg h]; omega
  · have e : t = - (-t) := by omega
    have k : t.tmod 1000 = - ((-t) % 1000) := by
      rw [e, Int.neg_tmod, Int.tmod_eq_emod_of_nonneg (by omega)]; simp
    rw [k]; omega

theorem leftI_range {x n : Int} (h0 : 0 ≤ x) (h1 : x < 4) : 0 ≤ leftI x n ∧ leftI x n < 4 := by rw [leftI_t h0 h1]; omega
theorem leftI_back {x n : Int} (h0 : 0 ≤ x) (h1 : x < 4) : leftI (leftI x n) (-n) = x := by
  have h := leftI_range (n := n) h0 h1
  rw [leftI_t h.1 h.2, leftI_t h0 h1]; omega
theorem leftI_four {x : Int} (h0 : 0 ≤ x) (h1 : x < 4) : leftI x 4 = x := by rw [leftI_t h0 h1]; omega
theorem turnI_one {x : Int} (h0 : 0 ≤ x) (h1 : x < 4) : turnI x (leftI x 1) = 1 := by
  have h := leftI_range (n := 1) h0 h1
  rw [turnI_k 1 ⟨h0, h1⟩ h (by rw [leftI_t h0 h1]; omega)]; rfl
theorem turnI_two {x : Int} (h0 : 0 ≤ x) (h1 : x < 4) : turnI x (leftI x 2) = -2 := by
  have h := leftI_range (n := 2) h0 h1
  rw [turnI_k 2 ⟨h0, h1⟩ h (by rw [leftI_t h0 h1]; omega)]; rfl

theorem round_pos (d t : Int) (w : World) (hT : Tabs w) (hd : 0 < d) : Calls Tryd.prog 6 #[.int .i64 d, .int .i64 t] w fun r w' => r = .returned (.bool true) ∧ Below w.heap.size w w' := by
  have HT := Lib.hid hT
  have x0 : 0 ≤ d % 4 := by omega
  have x1 : d % 4 < 4 := by omega
  have f1 : goodB (leftI (d % 4) (t.tmod 1000)) = true := goodB_t (leftI_range x0 x1).1 (leftI_range x0 x1).2
  have f2 : (leftI (leftI (d % 4) (t.tmod 1000)) (-t.tmod 1000) == d % 4) = true := by rw [leftI_back x0 x1]; simp
  have f3 : (leftI (d % 4) 4 == d % 4) = true := by rw [leftI_four x0 x1]; simp
  have f4 : (turnI (d % 4) (leftI (d % 4) 2) == -2) = true := by rw [turnI_two x0 x1]; simp
  have tb := tmod1000 t
  obtain ⟨tb0, tb1⟩ := tb
  have F1 := Lib.hid f1
  have F2 := Lib.hid f2
  have F3 := Lib.hid f3
  have F4 := Lib.hid f4
  have X0 := Lib.hid x0
  have X1 := Lib.hid x1
  clear f1 f2 f3 f4 hT
  go_enter Tryd.func6, Tryd.ntmps6
  go_wp2_with (go_at_call 10; refine (left_any _ _ _).mono ?_; rintro e w' ⟨rfl, rfl⟩)
  go_loop [8, 9, 10, 20] (fun s a _ i => ∃ k : Nat, ∃ m : Int, k ≤ 4 ∧ 0 ≤ m ∧ m < 4 ∧ ((d % 4 + k) % 4 = m) ∧ i = .int .i64 k ∧ s = .int .i64 k ∧ a = .int .i64 m) (fun _ _ _ i => 4 - (intOf i).toNat)
  case atStart => exact ⟨0, d % 4, by omega, X0.out, X1.out, by have := X0.out; have := X1.out; omega, rfl, rfl, rfl⟩
  case round =>
    obtain ⟨k, m, hk, hm0, hm1, hm, rfl, rfl, rfl⟩ := hrel
    by_cases hlt : k < 4
    · have T : Hid (turnI m (leftI m 1) = 1) := turnI_one hm0 hm1
      have L : Hid (leftI m 1 = (m + 1) % 4) := leftI_t hm0 hm1
      have M := Lib.hid hm
      clear hm
      go_wp2_with (first
        | (go_at_call 10; refine (left_any _ _ _).mono ?_; rintro e w' ⟨rfl, rfl⟩)
        | (go_at_call 12; refine (turn_any _ _ _ HT.out).mono ?_; rw [T.out]; rintro e w' ⟨rfl, rfl⟩))
      go_round
      case rel => exact ⟨k + 1, leftI m 1, by omega, by rw [L.out]; omega, by rw [L.out]; omega, by rw [L.out]; have := M.out; omega, by go_num, by go_num, rfl⟩
      case measure => simp [intOf]; omega
    · obtain rfl : k = 4 := by omega
      have hm' : m = d % 4 := by have := X0.out; have := X1.out; omega
      subst hm'
      have f1 := F1.out; have f2 := F2.out; have f3 := F3.out; have f4 := F4.out
      clear hm
      go_wp2_with (first
        | (go_at_call 10; refine (left_any _ _ _).mono ?_; rintro e w' ⟨rfl, rfl⟩)
        | (go_at_call 8; refine (good_any _ _).mono ?_; rintro e w' ⟨rfl, rfl⟩)
        | (go_at_call 14; refine (wakes_any _ HT.out).mono ?_; rintro e w1 ⟨rfl, hb⟩)
        | (go_at_call 12; refine (turn_any _ _ _ (HT.out.below (by assumption) HT.out.room)).mono ?_; rintro e w' ⟨rfl, rfl⟩))
      go_ret
      exact ⟨rfl, by assumption⟩

theorem round_neg (d t : Int) (w : World) (hT : Tabs w) (hd : d ≤ 0) : Calls Tryd.prog 6 #[.int .i64 d, .int .i64 t] w fun r w' => r = .returned (.bool true) ∧ Below w.heap.size w w' := by
  have HT := Lib.hid hT
  have x0 : 0 ≤ (0 : Int) := by omega
  have x1 : (0 : Int) < 4 := by omega
  have f1 : goodB (leftI ((0 : Int)) (t.tmod 1000)) = true := goodB_t (leftI_range x0 x1).1 (leftI_range x0 x1).2
  have f2 : (leftI (leftI ((0 : Int)) (t.tmod 1000)) (-t.tmod 1000) == (0 : Int)) = true := by rw [leftI_back x0 x1]; simp
  have f3 : (leftI ((0 : Int)) 4 == (0 : Int)) = true := by rw [leftI_four x0 x1]; simp
  have f4 : (turnI ((0 : Int)) (leftI ((0 : Int)) 2) == -2) = true := by rw [turnI_two x0 x1]; simp
  have tb := tmod1000 t
  obtain ⟨tb0, tb1⟩ := tb
  have F1 := Lib.hid f1
  have F2 := Lib.hid f2
  have F3 := Lib.hid f3
  have F4 := Lib.hid f4
  have X0 := Lib.hid x0
  have X1 := Lib.hid x1
  clear f1 f2 f3 f4 hT
  go_enter Tryd.func6, Tryd.ntmps6
  go_wp2_with (go_at_call 10; refine (left_any _ _ _).mono ?_; rintro e w' ⟨rfl, rfl⟩)
  go_loop [8, 9, 10, 20] (fun s a _ i => ∃ k : Nat, ∃ m : Int, k ≤ 4 ∧ 0 ≤ m ∧ m < 4 ∧ (((0 : Int) + k) % 4 = m) ∧ i = .int .i64 k ∧ s = .int .i64 k ∧ a = .int .i64 m) (fun _ _ _ i => 4 - (intOf i).toNat)
  case atStart => exact ⟨0, (0 : Int), by omega, X0.out, X1.out, by have := X0.out; have := X1.out; omega, rfl, rfl, rfl⟩
  case round =>
    obtain ⟨k, m, hk, hm0, hm1, hm, rfl, rfl, rfl⟩ := hrel
    by_cases hlt : k < 4
    · have T : Hid (turnI m (leftI m 1) = 1) := turnI_one hm0 hm1
      have L : Hid (leftI m 1 = (m + 1) % 4) := leftI_t hm0 hm1
      have M := Lib.hid hm
      clear hm
      go_wp2_with (first
        | (go_at_call 10; refine (left_any _ _ _).mono ?_; rintro e w' ⟨rfl, rfl⟩)
        | (go_at_call 12; refine (turn_any _ _ _ HT.out).mono ?_; rw [T.out]; rintro e w' ⟨rfl, rfl⟩))
      go_round
      case rel => exact ⟨k + 1, leftI m 1, by omega, by rw [L.out]; omega, by rw [L.out]; omega, by rw [L.out]; have := M.out; omega, by go_num, by go_num, rfl⟩
      case measure => simp [intOf]; omega
    · obtain rfl : k = 4 := by omega
      have hm' : m = (0 : Int) := by have := X0.out; have := X1.out; omega
      subst hm'
      have f1 := F1.out; have f2 := F2.out; have f3 := F3.out; have f4 := F4.out
      clear hm
      go_wp2_with (first
        | (go_at_call 10; refine (left_any _ _ _).mono ?_; rintro e w' ⟨rfl, rfl⟩)
        | (go_at_call 8; refine (good_any _ _).mono ?_; rintro e w' ⟨rfl, rfl⟩)
        | (go_at_call 14; refine (wakes_any _ HT.out).mono ?_; rintro e w1 ⟨rfl, hb⟩)
        | (go_at_call 12; refine (turn_any _ _ _ (HT.out.below (by assumption) HT.out.room)).mono ?_; rintro e w' ⟨rfl, rfl⟩))
      go_ret
      exact ⟨rfl, by assumption⟩

theorem round_any (d t : Int) (w : World) (hT : Tabs w) : Calls Tryd.prog 6 #[.int .i64 d, .int .i64 t] w fun r w' => r = .returned (.bool true) ∧ Below w.heap.size w w' := by
  by_cases hd : 0 < d
  · exact round_pos d t w hT hd
  · exact round_neg d t w hT (by omega)
end Go.Proofs.YtnfaebcbcmodmaaDoor
