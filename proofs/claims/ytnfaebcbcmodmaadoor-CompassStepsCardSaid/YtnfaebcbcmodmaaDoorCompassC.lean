/-
  The compass functions' walks, the third part: the given answers, and the signs of life. Conditions: none but what each theorem states.
-/
import Derived.Test.YtnfaebcbcmodmaaDoorCompassB
namespace Go.Proofs.YtnfaebcbcmodmaaDoor
open Go.RowKit

theorem rturn_any (d e : Int) (w : World) : Calls Tryd.prog 13 #[.int .i64 d, .int .i64 e] w fun r w' => r = .returned (.int .i64 (turnI d e)) ∧ w' = w := by
  by_cases h0 : 0 ≤ d ∧ d < 4
  · have hgd := goodB_t h0.1 h0.2
    by_cases h1 : 0 ≤ e ∧ e < 4
    · have hge := goodB_t h1.1 h1.2
      have hk : (e - d) % 4 = 0 ∨ (e - d) % 4 = 1 ∨ (e - d) % 4 = 2 ∨ (e - d) % 4 = 3 := by omega
      by_cases hde : (d == e) = true
      · have : d = e := by simpa using hde
        rw [turnI_k 0 h0 h1 (by omega)]
        clear h0 h1 hk this
        go_enter Tryd.func13, Tryd.ntmps13
        go_wp2_with (go_at_call 9; refine (rgood_any _ _).mono ?_; rintro e w' ⟨rfl, rfl⟩)
        go_ret
        exact ⟨rfl, rfl⟩
      · have hne : (d == e) = false := by simpa using hde
        have hn : d ≠ e := by simpa using hne
        clear hde
        have k1 : ((leftI d 1) == e) = decide ((e - d) % 4 = 1) := by
          rw [leftI_t h0.1 h0.2, Bool.eq_iff_iff]; simp; omega
        have k3 : ((leftI d 3) == e) = decide ((e - d) % 4 = 3) := by
          rw [leftI_t h0.1 h0.2, Bool.eq_iff_iff]; simp; omega
        rcases hk with hk | hk | hk | hk
        · exact absurd hk (by omega)
        all_goals
          rw [turnI_k _ h0 h1 hk]
          simp only [hk] at k1 k3
          clear h0 h1 hn hk
          simp at k1 k3
          go_enter Tryd.func13, Tryd.ntmps13
          go_wp2_with (first
            | (go_at_call 9; refine (rgood_any _ _).mono ?_; rintro e w' ⟨rfl, rfl⟩)
            | (go_at_call 11; refine (rleft_any _ _ _).mono ?_; rintro e w' ⟨rfl, rfl⟩))
          go_ret
          exact ⟨rfl, rfl⟩
    · rw [turnI_f (fun h => h1 h.2)]
      have hge := goodB_f h1
      clear h1 h0
      go_enter Tryd.func13, Tryd.ntmps13
      go_wp2_with (go_at_call 9; refine (rgood_any _ _).mono ?_; rintro e w' ⟨rfl, rfl⟩)
      go_ret
      exact ⟨rfl, rfl⟩
  · rw [turnI_f (fun h => h0 h.1)]
    have hgd := goodB_f h0
    clear h0
    go_enter Tryd.func13, Tryd.ntmps13
    go_wp2_with (go_at_call 9; refine (rgood_any _ _).mono ?_; rintro e w' ⟨rfl, rfl⟩)
    go_ret
    exact ⟨rfl, rfl⟩

theorem rletter_any (d : Int) (w : World) : Calls Tryd.prog 17 #[.int .i64 d] w fun e w' => e = .returned (.string (letterS d)) ∧ Below w.heap.size w w' := by
  by_cases h0 : 0 ≤ d ∧ d < 4
  · have hgd := goodB_t h0.1 h0.2
    have hk : d = 0 ∨ d = 1 ∨ d = 2 ∨ d = 3 := by omega
    clear h0
    rcases hk with rfl | rfl | rfl | rfl
    all_goals
      go_enter Tryd.func17, Tryd.ntmps17
      go_wp2_with (go_at_call 9; refine (rgood_any _ _).mono ?_; rintro e w' ⟨rfl, rfl⟩)
      go_ret
      exact ⟨rfl, (Below.refl _ _).alloc (Nat.le_refl _) _⟩
  · have hgd := goodB_f h0
    rw [letterS_f h0]
    clear h0
    go_enter Tryd.func17, Tryd.ntmps17
    go_wp2_with (go_at_call 9; refine (rgood_any _ _).mono ?_; rintro e w' ⟨rfl, rfl⟩)
    go_ret
    exact ⟨rfl, Below.refl _ _⟩

theorem rbetween_any (ax ay bx b : Int) (w : World) : Calls Tryd.prog 20 #[.agg #[.int .i64 ax, .int .i64 ay], .agg #[.int .i64 bx, .int .i64 b]] w
    fun e w' => e = .returned (.int .i64 (btwI ax ay bx b)) ∧ Below w.heap.size w w' := by
  have key : ∀ k, btwI ax ay bx b = k → btwI ax ay bx b = k := fun _ h => h
  unfold btwI at key
  cases c1 : (ax == bx)
  · have e1 : ax ≠ bx := by simpa using c1
    have n1 : (ax != bx) = true := by simpa using e1
    cases c2 : (ay == b)
    · have e2 : ay ≠ b := by simpa using c2
      have n2 : (ay != b) = true := by simpa using e2
      rw [show btwI ax ay bx b = -1 from key (-1) (by rw [c1, c2]; rfl)]
      clear key e1 e2
      go_enter Tryd.func20, Tryd.ntmps20
      go_wp2
      go_ret
      exact ⟨rfl, ((Below.refl _ _).alloc (Nat.le_refl _) _).alloc (by simp) _⟩
    · have e2 : ay = b := by simpa using c2
      have n2 : (ay != b) = false := by simpa using e2
      have h2 : ¬ ay < b := by omega
      have h4 : ¬ b < ay := by omega
      by_cases h1 : ax < bx
      · rw [show btwI ax ay bx b = 0 from key 0 (by rw [c1, c2, if_neg (by decide), if_pos h1])]
        clear key e1 e2
        go_enter Tryd.func20, Tryd.ntmps20
        go_wp2
        go_ret
        exact ⟨rfl, ((Below.refl _ _).alloc (Nat.le_refl _) _).alloc (by simp) _⟩
      · have h3 : bx < ax := by omega
        rw [show btwI ax ay bx b = 2 from key 2 (by rw [c1, c2, if_neg (by decide), if_neg h1, if_neg h2, if_pos h3])]
        clear key e1 e2
        go_enter Tryd.func20, Tryd.ntmps20
        go_wp2
        go_ret
        exact ⟨rfl, ((Below.refl _ _).alloc (Nat.le_refl _) _).alloc (by simp) _⟩
  · have e1 : ax = bx := by simpa using c1
    have n1 : (ax != bx) = false := by simpa using e1
    have h1 : ¬ ax < bx := by omega
    have h3 : ¬ bx < ax := by omega
    cases c2 : (ay == b)
    · have e2 : ay ≠ b := by simpa using c2
      have n2 : (ay != b) = true := by simpa using e2
      by_cases h2 : ay < b
      · rw [show btwI ax ay bx b = 1 from key 1 (by rw [c1, c2, if_neg (by decide), if_neg h1, if_pos h2])]
        clear key e1 e2
        go_enter Tryd.func20, Tryd.ntmps20
        go_wp2
        go_ret
        exact ⟨rfl, ((Below.refl _ _).alloc (Nat.le_refl _) _).alloc (by simp) _⟩
      · have h4 : b < ay := by omega
        rw [show btwI ax ay bx b = 3 from key 3 (by rw [c1, c2, if_neg (by decide), if_neg h1, if_neg h2, if_neg h3])]
        clear key e1 e2
        go_enter Tryd.func20, Tryd.ntmps20
        go_wp2
        go_ret
        exact ⟨rfl, ((Below.refl _ _).alloc (Nat.le_refl _) _).alloc (by simp) _⟩
    · have e2 : ay = b := by simpa using c2
      have n2 : (ay != b) = false := by simpa using e2
      have h2 : ¬ ay < b := by omega
      have h4 : ¬ b < ay := by omega
      rw [show btwI ax ay bx b = -1 from key (-1) (by rw [c1, c2]; rfl)]
      clear key e1 e2
      go_enter Tryd.func20, Tryd.ntmps20
      go_wp2
      go_ret
      exact ⟨rfl, ((Below.refl _ _).alloc (Nat.le_refl _) _).alloc (by simp) _⟩

theorem between_k (ax ay bx b k d : Int) (o : Bool) (w : World) (hk : btwI ax ay bx b = k) (hd : dirD k = d) (ho : dirB k = o) : Calls Tryd.prog 18 #[.agg #[.int .i64 ax, .int .i64 ay], .agg #[.int .i64 bx, .int .i64 b]] w
    fun e w' => e = .returned (.tuple #[.int .i64 d, .bool o]) ∧ Below w.heap.size w w' := by
  subst hk hd ho; exact between_any ax ay bx b w
theorem rbetween_k (ax ay bx b k : Int) (w : World) (hk : btwI ax ay bx b = k) : Calls Tryd.prog 20 #[.agg #[.int .i64 ax, .int .i64 ay], .agg #[.int .i64 bx, .int .i64 b]] w
    fun e w' => e = .returned (.int .i64 k) ∧ Below w.heap.size w w' := by
  subst hk; exact rbetween_any ax ay bx b w
theorem rleft_k (d t k : Int) (w : World) (hk : leftI d t = k) : Calls Tryd.prog 11 #[.int .i64 d, .int .i64 t] w fun e w' => e = .returned (.int .i64 k) ∧ w' = w := by
  subst hk; exact rleft_any d t w

theorem of_W (w : World) : Calls Tryd.prog 16 #[.string ⟨#[87]⟩] w fun e w' => e = .returned (.tuple #[.int .i64 2, .bool true]) ∧ w' = w := of_one 87 w

theorem wakes_any (w : World) (hT : Tabs w) : Calls Tryd.prog 14 #[] w fun e w' => e = .returned (.bool true) ∧ Below w.heap.size w w' := by
  have L : leftI 3 1 = 0 := rfl
  have T : turnI 1 0 = -1 := rfl
  have S : letterS 1 = ⟨#[78]⟩ := rfl
  have X : stepX 2 = -1 := rfl
  have Y : stepY 2 = 0 := rfl
  go_enter Tryd.func14, Tryd.ntmps14
  go_wp2_with (first
    | (go_at_call 16; refine (of_W _).mono ?_; rintro e w' ⟨rfl, rfl⟩)
    | (go_at_call 10; refine (left_any _ _ _).mono ?_; rintro e w' ⟨rfl, rfl⟩)
    | (go_at_call 12; refine (turn_any _ _ _ hT).mono ?_; rintro e w' ⟨rfl, rfl⟩)
    | (go_at_call 15; refine (letter_any _ _).mono ?_; rintro e w' ⟨rfl, rfl⟩)
    | (go_at_call 19; refine (step_any _ _ hT).mono ?_; rintro e w' ⟨rfl, hb⟩))
  go_ret
  exact ⟨rfl, by assumption⟩
end Go.Proofs.YtnfaebcbcmodmaaDoor
