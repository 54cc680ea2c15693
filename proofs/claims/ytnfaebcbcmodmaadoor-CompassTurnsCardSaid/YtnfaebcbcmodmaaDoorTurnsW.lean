/-
  CompassTurns: the walk: at every input the call answers true and turns nothing that was there. Conditions: the world holds the two tables.
-/
import Derived.Test.YtnfaebcbcmodmaaDoorCompassC
namespace Go.Proofs.YtnfaebcbcmodmaaDoor
open Go.RowKit

/-- The loop's relation: the list of two pairs lies in block B, and below B nothing has turned. -/
def TurnsRel (B : Nat) (w wr : World) (i : Value) : Prop :=
  ∃ (k : Nat) (a b p q : Int), k ≤ 2 ∧ i = .int .i64 k ∧ Below B w wr ∧ B < wr.heap.size ∧
    wr.cell? ⟨B, 0, none⟩ = some (.int .i64 a) ∧ wr.cell? ⟨B, 1, none⟩ = some (.int .i64 b) ∧ wr.cell? ⟨B, 2, none⟩ = some (.int .i64 p) ∧ wr.cell? ⟨B, 3, none⟩ = some (.int .i64 q)

theorem turns_any (d e t : Int) (w : World) (hT : Tabs w) : Calls Tryd.prog 3 #[.int .i64 d, .int .i64 e, .int .i64 t] w fun r w' => r = .returned (.bool true) ∧ Below w.heap.size w w' := by
  have hr2 := hT.room
  have HT := Lib.hid hT
  clear hT
  go_enter Tryd.func3, Tryd.ntmps3
  go_wp2
  all_goals
    go_loopw [21] (fun i wr => TurnsRel w.heap.size w wr i) (fun i _ => 2 - (intOf i).toNat)
    case atStart => exact ⟨0, _, _, _, _, by omega, rfl, (Below.refl _ _).alloc (Nat.le_refl _) _, by simp, by go_simp; rfl, by go_simp; rfl, by go_simp; rfl, by go_simp; rfl⟩
    case round =>
      obtain ⟨k, a, b, p, q, hk, rfl, hb, hs, c0, c1, c2, c3⟩ := hrel
      have hT' := Lib.hid (HT.out.below hb hr2)
      by_cases h0 : k = 0
      · subst h0
        go_wp2
        go_quiet ((first
          | (go_at_call 8; exact Calls.quiet_of_same (good_any _ _))
          | (go_at_call 9; exact Calls.quiet_of_same (rgood_any _ _))
          | (go_at_call 10; exact Calls.quiet_of_same (left_any _ _ _))
          | (go_at_call 11; exact Calls.quiet_of_same (rleft_any _ _ _))
          | (go_at_call 12; exact Calls.quiet_of_same (turn_any _ _ _ (Tabs.drewN (hT'.out.below ((Below.refl _ _).alloc (Nat.le_refl _) _) (by have := hT'.out.room; omega)) _)))
          | (go_at_call 13; exact Calls.quiet_of_same (rturn_any _ _ _))))
        go_wp2
        go_roundw
        case rel => exact ⟨1, a, b, p, q, by omega, by go_num, below_drewN (hb.alloc (by omega) _) _, by simp; omega, by go_simp, by go_simp, by go_simp, by go_simp⟩
        case measure => simp [intOf]
      by_cases h1 : k = 1
      · subst h1
        go_wp2
        go_quiet ((first
          | (go_at_call 8; exact Calls.quiet_of_same (good_any _ _))
          | (go_at_call 9; exact Calls.quiet_of_same (rgood_any _ _))
          | (go_at_call 10; exact Calls.quiet_of_same (left_any _ _ _))
          | (go_at_call 11; exact Calls.quiet_of_same (rleft_any _ _ _))
          | (go_at_call 12; exact Calls.quiet_of_same (turn_any _ _ _ (Tabs.drewN (hT'.out.below ((Below.refl _ _).alloc (Nat.le_refl _) _) (by have := hT'.out.room; omega)) _)))
          | (go_at_call 13; exact Calls.quiet_of_same (rturn_any _ _ _))))
        go_wp2
        go_roundw
        case rel => exact ⟨2, a, b, p, q, by omega, by go_num, below_drewN (hb.alloc (by omega) _) _, by simp; omega, by go_simp, by go_simp, by go_simp, by go_simp⟩
        case measure => simp [intOf]
      obtain rfl : k = 2 := by omega
      go_wp2_with (go_at_call 14; refine (wakes_any _ hT'.out).mono ?_; rintro e w' ⟨rfl, hb2⟩)
      go_ret
      exact ⟨rfl, hb.trans (hb2.mono (by omega))⟩
end Go.Proofs.YtnfaebcbcmodmaaDoor
