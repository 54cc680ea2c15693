/-
  The compass functions' walks: what each of them answers at any ints, over a world that holds the two tables. Conditions: none but what each theorem states.
-/
import Derived.Test.YtgchmoabhblmcaaGreatDoorBase
namespace Go.Proofs.YtgchmoabhblmcaaGreatDoor
open Go.RowKit

/-- A direction? -/
def goodB (d : Int) : Bool := decide (0 ≤ d ∧ d < 4)
theorem goodB_t {d : Int} (h0 : 0 ≤ d) (h1 : d < 4) : goodB d = true := decide_eq_true ⟨h0, h1⟩
theorem goodB_f {d : Int} (h : ¬ (0 ≤ d ∧ d < 4)) : goodB d = false := decide_eq_false h

theorem good_any (d : Int) (w : World) : Calls Tryz.prog 45 #[.int .i64 d] w fun e w' => e = .returned (.bool (goodB d)) ∧ w' = w := by
  by_cases h0 : 0 ≤ d
  · by_cases h1 : d < 4
    · rw [goodB_t h0 h1]
      go_enter Tryz.func45, Tryz.ntmps45
      go_wp2
      go_ret
      exact ⟨rfl, rfl⟩
    · rw [goodB_f (by omega)]
      go_enter Tryz.func45, Tryz.ntmps45
      go_wp2
      go_ret
      exact ⟨rfl, rfl⟩
  · rw [goodB_f (by omega)]
    go_enter Tryz.func45, Tryz.ntmps45
    go_wp2
    go_ret
    exact ⟨rfl, rfl⟩


/-- d turned so often. -/
def leftI (d t : Int) : Int := if 0 ≤ d ∧ d < 4 then (d + t) % 4 else 0
theorem leftI_t {d t : Int} (h0 : 0 ≤ d) (h1 : d < 4) : leftI d t = (d + t) % 4 := if_pos ⟨h0, h1⟩
theorem leftI_f {d t : Int} (h : ¬ (0 ≤ d ∧ d < 4)) : leftI d t = 0 := if_neg h

theorem tmod4 (d t : Int) : -3 ≤ t.tmod 4 ∧ t.tmod 4 ≤ 3 ∧ (d + t.tmod 4) % 4 = (d + t) % 4 := by
  rcases Int.le_total 0 t with h | h
  · rw [Int.tmod_eq_emod_of_nonneg h]; omega
  · have e : t = - (-t) := by omega
    have k : t.tmod 4 = - ((-t) % 4) := by
      rw [e, Int.neg_tmod, Int.tmod_eq_emod_of_nonneg (by omega)]; simp
    rw [k]; omega





/-- How one turns. -/
def turnT (k : Int) : Int := if k = 0 then 0 else if k = 1 then 1 else if k = 2 then -2 else -1
def turnI (d e : Int) : Int := if (0 ≤ d ∧ d < 4) ∧ (0 ≤ e ∧ e < 4) then turnT ((e - d) % 4) else 0
theorem turnI_k {d e : Int} (k : Int) (h0 : 0 ≤ d ∧ d < 4) (h1 : 0 ≤ e ∧ e < 4) (hk : (e - d) % 4 = k) : turnI d e = turnT k := by rw [← hk]; exact if_pos ⟨h0, h1⟩
theorem turnI_f {d e : Int} (h : ¬ ((0 ≤ d ∧ d < 4) ∧ (0 ≤ e ∧ e < 4))) : turnI d e = 0 := if_neg h


/-- A step. -/
def stepX (d : Int) : Int := if d = 0 then 1 else if d = 2 then -1 else 0
def stepY (d : Int) : Int := if d = 1 then 1 else if d = 3 then -1 else 0


end Go.Proofs.YtgchmoabhblmcaaGreatDoor
