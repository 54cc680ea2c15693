/-
  The compass functions' walks, the third part: the given answers, and the signs of life. Conditions: none but what each theorem states.
-/
import Derived.Test.YtgchmoabhblmcaaGreatDoorCompassB
namespace Go.Proofs.YtgchmoabhblmcaaGreatDoor
open Go.RowKit


theorem rletter_any (d : Int) (w : World) : Calls Tryz.prog 29 #[.int .i64 d] w fun e w' => e = .returned (.string (letterS d)) ∧ Below w.heap.size w w' := by
  by_cases h0 : 0 ≤ d ∧ d < 4
  · have hgd := goodB_t h0.1 h0.2
    have hk : d = 0 ∨ d = 1 ∨ d = 2 ∨ d = 3 := by omega
    clear h0
    rcases hk with rfl | rfl | rfl | rfl
    all_goals
      go_enter Tryz.func29, Tryz.ntmps29
      go_wp2_with (go_at_call 47; refine (rgood_any _ _).mono ?_; rintro e w' ⟨rfl, rfl⟩)
      go_ret
      exact ⟨rfl, (Below.refl _ _).alloc (Nat.le_refl _) _⟩
  · have hgd := goodB_f h0
    rw [letterS_f h0]
    clear h0
    go_enter Tryz.func29, Tryz.ntmps29
    go_wp2_with (go_at_call 47; refine (rgood_any _ _).mono ?_; rintro e w' ⟨rfl, rfl⟩)
    go_ret
    exact ⟨rfl, Below.refl _ _⟩





theorem of_W (w : World) : Calls Tryz.prog 67 #[.string ⟨#[87]⟩] w fun e w' => e = .returned (.tuple #[.int .i64 2, .bool true]) ∧ w' = w := of_one 87 w


end Go.Proofs.YtgchmoabhblmcaaGreatDoor
