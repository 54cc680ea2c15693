/-
  wakes of layer's laws answers true. Conditions: none.
-/
import Derived.Test.YtdapbhnonhamhaaLayR
namespace Go.Proofs.Ytdapbhnonhamhaa
open Go.RowKit Go.Proofs.Ytdapbhnonhamhaa.DagM

set_option maxHeartbeats 1000000 in
set_option maxRecDepth 100000 in
theorem wakes4 (w : World) : Calls Try.prog 20 #[] w fun e w' => e = .returned (.bool true) ∧ Below w.heap.size w w' := by
  go_enter Try.func20, Try.ntmps20
  go_wp2_with (first
    | (go_at_call 15; refine (layersNo 1 _ [(0, 0, 0)] _ (arcs_lit [(0, 0, 0)] w1 _ 1 (by decide)) (by rw [loop_ex]; decide)).mono ?_; rintro e w2 ⟨rfl, hb⟩; rw [loop_ex]; have b2 : Below w1.heap.size w1 w2 := ((Below.refl _ _).alloc (Nat.le_refl _) _).trans (hb.mono (by simp)); have O2 := Lib.hid (O1.out.below b2); have B2 : Hid (Below w.heap.size w w2) := Lib.hid (B1.out.trans (b2.mono (by omega))); have z2 : w.heap.size + 1 ≤ w2.heap.size := (by have := b2.size; omega); clear hb b2)
    | (go_at_call 15; go_loud (refine (layersIs 3 _ [(0, 1, 0), (1, 2, 0), (0, 2, 0)] wkD [0, 1, 2] _ (arcs_lit [(0, 1, 0), (1, 2, 0), (0, 2, 0)] w _ 3 (by decide)) wk_ord wk_lay (by decide)).mono ?_); rintro e w1 ⟨v1, rfl, ho, hb⟩; obtain ⟨a1, c1, rfl⟩ := ho.form; have O1 := Lib.hid ho; have B1 : Hid (Below w.heap.size w w1) := Lib.hid (((Below.refl _ _).alloc (Nat.le_refl _) _).trans (hb.mono (by simp))); have z1 : w.heap.size + 1 ≤ w1.heap.size := (by have := hb.size; simpa using this); clear ho hb)
    | (go_at_call 11; refine (equalI _ _ [0, 1, 2] [0, 1, 2] _ (O2.out.ints.below ((Below.refl _ _).alloc (Nat.le_refl _) _)) (ints_lit [0, 1, 2] w2 _ 3 (by decide)) (by decide) (by decide)).mono ?_; rintro e w3 ⟨rfl, hb⟩; rw [show (([0, 1, 2] : List Int) == [0, 1, 2]) = true from rfl]; have O3 := Lib.hid (O2.out.below (((Below.refl _ _).alloc (Nat.le_refl _) _).trans (hb.mono (by simp)))); have B3 : Hid (Below w.heap.size w w3) := Lib.hid (B2.out.trans ((((Below.refl _ _).alloc (Nat.le_refl _) _).trans (hb.mono (by simp))).mono (by omega))); clear hb)
    | (go_at_call 17; go_loud (refine (span _ [0, 1, 2] _ O3.out.ints (by decide) (by decide)).mono ?_; rintro e w4 ⟨rfl, rfl⟩; rw [wk_span])))
  go_ret
  exact ⟨rfl, B3.out⟩
