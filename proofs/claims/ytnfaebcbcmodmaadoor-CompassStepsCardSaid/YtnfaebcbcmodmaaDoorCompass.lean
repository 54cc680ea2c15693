/-
  The compass functions' walks: what each of them answers at any ints, over a world that holds the two tables. Conditions: none but what each theorem states.
-/
import Derived.Test.YtnfaebcbcmodmaaDoorBase
namespace Go.Proofs.YtnfaebcbcmodmaaDoor
open Go.RowKit

/-- A direction? -/
def goodB (d : Int) : Bool := decide (0 ≤ d ∧ d < 4)
theorem goodB_t {d : Int} (h0 : 0 ≤ d) (h1 : d < 4) : goodB d = true := decide_eq_true ⟨h0, h1⟩
theorem goodB_f {d : Int} (h : ¬ (0 ≤ d ∧ d < 4)) : goodB d = false := decide_eq_false h

theorem good_any (d : Int) (w : World) : Calls Tryd.prog 8 #[.int .i64 d] w fun e w' => e = .returned (.bool (goodB d)) ∧ w' = w := by
  by_cases h0 : 0 ≤ d
  · by_cases h1 : d < 4
    · rw [goodB_t h0 h1]
      go_enter Tryd.func8, Tryd.ntmps8
      go_wp2
      go_ret
      exact ⟨rfl, rfl⟩
    · rw [goodB_f (by omega)]
      go_enter Tryd.func8, Tryd.ntmps8
      go_wp2
      go_ret
      exact ⟨rfl, rfl⟩
  · rw [goodB_f (by omega)]
    go_enter Tryd.func8, Tryd.ntmps8
    go_wp2
    go_ret
    exact ⟨rfl, rfl⟩

theorem wrap_any (n k : Int) (w : World) (h0 : -4 ≤ n) (h1 : n ≤ 8) (hk : n % 4 = k) : Calls Tryd.prog 21 #[.int .i64 n] w fun e w' => e = .returned (.int .i64 k) ∧ w' = w := by
  have e : (n + 4) % 4 = k := by omega
  have H := Lib.hid e; clear e hk
  go_enter Tryd.func21, Tryd.ntmps21
  go_wp2
  go_ret
  exact ⟨ret_int H.out, rfl⟩

/-- d turned so often. -/
def leftI (d t : Int) : Int := if 0 ≤ d ∧ d < 4 then (d + t) % 4 else 0
theorem leftI_t {d t : Int} (h0 : 0 ≤ d) (h1 : d < 4) : leftI d t = (d + t) % 4 := if_pos ⟨h0, h1⟩
theorem leftI_f {d t : Int} (h : ¬ (0 ≤ d ∧ d < 4)) : leftI d t = 0 := if_neg h

theorem tmod4 (d t : Int) : -3 ≤ t.tmod 4 ∧ t.tmod 4 ≤ 3 ∧ (d + t.tmod 4) % 4 = (d + t) % 4 := by
  rcases Int.le_total 0 t with h | h
  · rw [Int.tmod_eq_emod_of_nonneg h]; omega
  · have e : t = - (-t) := by omega
    have k : t.tmod 4 = - ((-t) % 4) := by
      rw [e, Int.neg_tmod, Int.tmod_eq_emod_of_nonneg (by omega)]; simp
    rw [k]; omega

theorem left_any (d t : Int) (w : World) : Calls Tryd.prog 10 #[.int .i64 d, .int .i64 t] w fun e w' => e = .returned (.int .i64 (leftI d t)) ∧ w' = w := by
  by_cases h : 0 ≤ d ∧ d < 4
  · rw [leftI_t h.1 h.2]
    obtain ⟨h0, h1⟩ := h
    obtain ⟨t0, t1, t2⟩ := tmod4 d t
    have hg := goodB_t h0 h1
    have T := Lib.hid t2; clear t2
    go_enter Tryd.func10, Tryd.ntmps10
    go_wp2_with (first
      | (go_at_call 8; refine (good_any _ _).mono ?_; rintro e w' ⟨rfl, rfl⟩)
      | (go_at_call 21; go_must (refine (wrap_any _ _ _ (by omega) (by omega) T.out).mono ?_); rintro e w' ⟨rfl, rfl⟩))
    go_ret
    exact ⟨rfl, rfl⟩
  · rw [leftI_f h]
    have hg := goodB_f h
    clear h
    go_enter Tryd.func10, Tryd.ntmps10
    go_wp2_with (go_at_call 8; refine (good_any _ _).mono ?_; rintro e w' ⟨rfl, rfl⟩)
    go_ret
    exact ⟨rfl, rfl⟩

/-- The two tables, as the world holds them. -/
structure Tabs (w : World) : Prop where
  t0 : w.cell? ⟨0, 0, none⟩ = some (.int .i64 0)
  t1 : w.cell? ⟨0, 1, none⟩ = some (.int .i64 1)
  t2 : w.cell? ⟨0, 2, none⟩ = some (.int .i64 (-2))
  t3 : w.cell? ⟨0, 3, none⟩ = some (.int .i64 (-1))
  s0 : w.cell? ⟨1, 0, none⟩ = some (.int .i64 1)
  s1 : w.cell? ⟨1, 1, none⟩ = some (.int .i64 0)
  s2 : w.cell? ⟨1, 2, none⟩ = some (.int .i64 0)
  s3 : w.cell? ⟨1, 3, none⟩ = some (.int .i64 1)
  s4 : w.cell? ⟨1, 4, none⟩ = some (.int .i64 (-1))
  s5 : w.cell? ⟨1, 5, none⟩ = some (.int .i64 0)
  s6 : w.cell? ⟨1, 6, none⟩ = some (.int .i64 0)
  s7 : w.cell? ⟨1, 7, none⟩ = some (.int .i64 (-1))
  room : 2 ≤ w.heap.size

theorem Tabs.below {w w' : World} {B : Nat} (h : Tabs w) (hb : Below B w w') (hB : 2 ≤ B) : Tabs w' :=
  ⟨(hb.cell (show (0:Nat) < B by omega)).trans h.t0, (hb.cell (show (0:Nat) < B by omega)).trans h.t1, (hb.cell (show (0:Nat) < B by omega)).trans h.t2, (hb.cell (show (0:Nat) < B by omega)).trans h.t3,
   (hb.cell (show (1:Nat) < B by omega)).trans h.s0, (hb.cell (show (1:Nat) < B by omega)).trans h.s1, (hb.cell (show (1:Nat) < B by omega)).trans h.s2, (hb.cell (show (1:Nat) < B by omega)).trans h.s3,
   (hb.cell (show (1:Nat) < B by omega)).trans h.s4, (hb.cell (show (1:Nat) < B by omega)).trans h.s5, (hb.cell (show (1:Nat) < B by omega)).trans h.s6, (hb.cell (show (1:Nat) < B by omega)).trans h.s7, Nat.le_trans h.room hb.size⟩
theorem Tabs.drewN {w : World} (h : Tabs w) (n : Nat) : Tabs (w.drewN n) := ⟨h.t0, h.t1, h.t2, h.t3, h.s0, h.s1, h.s2, h.s3, h.s4, h.s5, h.s6, h.s7, h.room⟩

/-- How one turns. -/
def turnT (k : Int) : Int := if k = 0 then 0 else if k = 1 then 1 else if k = 2 then -2 else -1
def turnI (d e : Int) : Int := if (0 ≤ d ∧ d < 4) ∧ (0 ≤ e ∧ e < 4) then turnT ((e - d) % 4) else 0
theorem turnI_k {d e : Int} (k : Int) (h0 : 0 ≤ d ∧ d < 4) (h1 : 0 ≤ e ∧ e < 4) (hk : (e - d) % 4 = k) : turnI d e = turnT k := by rw [← hk]; exact if_pos ⟨h0, h1⟩
theorem turnI_f {d e : Int} (h : ¬ ((0 ≤ d ∧ d < 4) ∧ (0 ≤ e ∧ e < 4))) : turnI d e = 0 := if_neg h

theorem turn_any (d e : Int) (w : World) (hT : Tabs w) :
    Calls Tryd.prog 12 #[.int .i64 d, .int .i64 e] w fun r w' => r = .returned (.int .i64 (turnI d e)) ∧ w' = w := by
  by_cases h0 : 0 ≤ d ∧ d < 4
  · have hgd := goodB_t h0.1 h0.2
    by_cases h1 : 0 ≤ e ∧ e < 4
    · have hge := goodB_t h1.1 h1.2
      have hk : (e - d) % 4 = 0 ∨ (e - d) % 4 = 1 ∨ (e - d) % 4 = 2 ∨ (e - d) % 4 = 3 := by omega
      have c0 := hT.t0
      have c1 := hT.t1
      have c2 := hT.t2
      have c3 := hT.t3
      rcases hk with hk | hk | hk | hk
      all_goals
        rw [turnI_k _ h0 h1 hk]
        obtain ⟨a0, a1⟩ := h0
        obtain ⟨b0, b1⟩ := h1
        have T := Lib.hid hk; clear hk
        go_enter Tryd.func12, Tryd.ntmps12
        go_wp2_with (first
          | (go_at_call 8; refine (good_any _ _).mono ?_; rintro e w' ⟨rfl, rfl⟩)
          | (go_at_call 21; go_must (refine (wrap_any _ _ _ (by omega) (by omega) T.out).mono ?_); rintro e w' ⟨rfl, rfl⟩))
        go_ret
        exact ⟨rfl, rfl⟩
    · rw [turnI_f (fun h => h1 h.2)]
      have hge := goodB_f h1
      clear h1 h0
      go_enter Tryd.func12, Tryd.ntmps12
      go_wp2_with (go_at_call 8; refine (good_any _ _).mono ?_; rintro e w' ⟨rfl, rfl⟩)
      go_ret
      exact ⟨rfl, rfl⟩
  · rw [turnI_f (fun h => h0 h.1)]
    have hgd := goodB_f h0
    clear h0
    go_enter Tryd.func12, Tryd.ntmps12
    go_wp2_with (go_at_call 8; refine (good_any _ _).mono ?_; rintro e w' ⟨rfl, rfl⟩)
    go_ret
    exact ⟨rfl, rfl⟩

/-- A step. -/
def stepX (d : Int) : Int := if d = 0 then 1 else if d = 2 then -1 else 0
def stepY (d : Int) : Int := if d = 1 then 1 else if d = 3 then -1 else 0

theorem step_any (d : Int) (w : World) (hT : Tabs w) :
    Calls Tryd.prog 19 #[.int .i64 d] w fun e w' => e = .returned (.agg #[.int .i64 (stepX d), .int .i64 (stepY d)]) ∧ Below w.heap.size w w' := by
  by_cases h0 : 0 ≤ d ∧ d < 4
  · have hgd := goodB_t h0.1 h0.2
    have hk : d = 0 ∨ d = 1 ∨ d = 2 ∨ d = 3 := by omega
    obtain ⟨_, _, _, _, s0, s1, s2, s3, s4, s5, s6, s7, hr⟩ := hT
    have hr1 : 1 < w.heap.size := hr
    clear h0 hr
    rcases hk with rfl | rfl | rfl | rfl
    all_goals
      go_enter Tryd.func19, Tryd.ntmps19
      go_wp2_with (go_at_call 8; refine (good_any _ _).mono ?_; rintro e w' ⟨rfl, rfl⟩)
      refine bodyPost_ret (v := .agg #[.int .i64 _, .int .i64 _]) (by simp [results, Tryd.results19, go_sem]; exact ⟨rfl, rfl⟩) rfl ⟨rfl, ?_⟩
      exact (Below.refl _ _).alloc (Nat.le_refl _) _
  · have hgd := goodB_f h0
    have e1 : stepX d = 0 := by unfold stepX; rw [if_neg (by omega), if_neg (by omega)]
    have e2 : stepY d = 0 := by unfold stepY; rw [if_neg (by omega), if_neg (by omega)]
    rw [e1, e2]
    clear h0 e1 e2
    go_enter Tryd.func19, Tryd.ntmps19
    go_wp2_with (go_at_call 8; refine (good_any _ _).mono ?_; rintro e w' ⟨rfl, rfl⟩)
    refine bodyPost_ret (v := .agg #[.int .i64 0, .int .i64 0]) (by simp [results, Tryd.results19, go_sem]) rfl ⟨rfl, ?_⟩
    exact (Below.refl _ _).alloc (Nat.le_refl _) _

end Go.Proofs.YtnfaebcbcmodmaaDoor
