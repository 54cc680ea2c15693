/-
  The heap of muntin/flow.visit: which of two items comes ahead, two items exchanged. Conditions: the function that the heap holds tells a strict weak order.
-/
import Derived.Test.YtkloaekmjnbacaaHeapLib
import Derived.BigRegion
import Derived.Deep.RegionWith
import Derived.Shelf.Abstract
namespace Go.Proofs.Ytkloaekmjnbacaa.HV
open Go.RowKit Go.Proofs.Ytkloaekmjnbacaa.HeapM

/-- An item's cells. -/
def enc (x : (Int × Int × Int) × Int) : List Value := [.int .i64 x.1.1, .int .i64 x.1.2.1, .int .i64 x.1.2.2] ++ [.int .i64 x.2]
theorem enc_len (x : (Int × Int × Int) × Int) : (enc x).length = 4 := rfl

/-- What the heap's function tells. -/
structure LessAt (fn : Nat) (lt : (Int × Int × Int) → (Int × Int × Int) → Bool) : Prop where
  eg : ∀ args w, (callFunc fn args).run Try.prog w = .ok (.enter fn args) w
  calls : ∀ (W : World) (x y : (Int × Int × Int)), Calls Try.prog fn #[(.agg #[.int .i64 x.1, .int .i64 x.2.1, .int .i64 x.2.2]), (.agg #[.int .i64 y.1, .int .i64 y.2.1, .int .i64 y.2.2])] W fun e W' => e = .returned (.bool (lt x y)) ∧ Below W.heap.size W W'
  ord : Ord lt
variable {fn : Nat} {lt : (Int × Int × Int) → (Int × Int × Int) → Bool}

set_option maxHeartbeats 400000 in
set_option maxRecDepth 100000 in
theorem isLess (hL : LessAt fn lt) (p : Nat) (x y : (Int × Int × Int)) (w : World) (_hp : p < w.heap.size) (h0 : w.cell? ⟨p, 0, none⟩ = some (.func (.func fn) #[] #[])) :
    Calls Try.prog 96 #[.pointer (some ⟨p, 0, none⟩), (.agg #[.int .i64 x.1, .int .i64 x.2.1, .int .i64 x.2.2]), (.agg #[.int .i64 y.1, .int .i64 y.2.1, .int .i64 y.2.2])] w fun e w' => e = .returned (.bool (lt x y)) ∧ Below w.heap.size w w' := by
  have HL := Lib.hid hL.calls
  have eg := hL.eg
  clear hL
  have hnf := fun (w : World) => run_neq_func_nil (P := Try.prog) w 89 _ _ _ (.func fn) #[] #[] Try.underlying89
  go_enter Try.func96, Try.ntmps96
  go_wp2
  go_region_with (refine (HL.out _ x y).mono ?_; rintro e w1 ⟨rfl, hb⟩)
  all_goals
    go_wp2
    go_ret
    exact ⟨rfl, (((Below.refl _ _).alloc (Nat.le_refl _) _).alloc (by simp) _).drew.trans (hb.mono (by simp; omega))⟩

theorem cells_at {w : World} {T E p n g cap : Nat} {f : Value} {l : List ((Int × Int × Int) × Int)} {c : Int} (h : HeapMem w T E 4 p f (.slice (some ⟨g, 0, none⟩) n cap) l.length (l.flatMap enc) c) (hn : n = l.length) (i : Nat) (hi : i < l.length) (r : Nat) (hr : r < 4) : w.cell? ⟨g, i * 4 + r, none⟩ = some ((enc (at_ l i)).getD r default) := by
  subst hn
  have hm : i * 4 + r < l.length * 4 := by omega
  rw [h.cell _ hm, flat_get enc enc_len l i r hi hr]
  rfl

set_option maxHeartbeats 400000 in
set_option maxRecDepth 100000 in
theorem ahead (hL : LessAt fn lt) (T E p g n cap i j : Nat) (l : List ((Int × Int × Int) × Int)) (c : Int) (w : World) (h : HeapMem w T E 4 p (.func (.func fn) #[] #[]) (.slice (some ⟨g, 0, none⟩) n cap) l.length (l.flatMap enc) c)
    (hn : n = l.length) (hs : l.length ≤ 1000000) (hi : i < l.length) (hj : j < l.length) :
    Calls Try.prog 78 #[.pointer (some ⟨p, 0, none⟩), .int .i64 i, .int .i64 j] w fun e w' => e = .returned (.bool (ahd lt (at_ l i) (at_ l j))) ∧ Below w.heap.size w w' := by
  have hps := h.lt
  have hgs := (h.row.lt g rfl).2
  have hpg : g ≠ p := fun e => h.apart (by subst e; rfl)
  have h0 := h.c0
  have h1 := h.c1
  have hA := Lib.hid (cells_at h hn i hi)
  have hB := Lib.hid (cells_at h hn j hj)
  have hi' : i < n := by omega
  have hj' : j < n := by omega
  have hn' : n ≤ 1000000 := by omega
  clear h hn hs hi hj
  generalize at_ l i = x at *
  generalize at_ l j = y at *
  have a0 : w.cell? ⟨g, i * 4, none⟩ = some (.int .i64 x.1.1) := hA.out 0 (by omega)
  have a1 : w.cell? ⟨g, i * 4 + 1, none⟩ = some (.int .i64 x.1.2.1) := hA.out 1 (by omega)
  have a2 : w.cell? ⟨g, i * 4 + 2, none⟩ = some (.int .i64 x.1.2.2) := hA.out 2 (by omega)
  have a3 : w.cell? ⟨g, i * 4 + 3, none⟩ = some (.int .i64 x.2) := hA.out 3 (by omega)
  have b0 : w.cell? ⟨g, j * 4, none⟩ = some (.int .i64 y.1.1) := hB.out 0 (by omega)
  have b1 : w.cell? ⟨g, j * 4 + 1, none⟩ = some (.int .i64 y.1.2.1) := hB.out 1 (by omega)
  have b2 : w.cell? ⟨g, j * 4 + 2, none⟩ = some (.int .i64 y.1.2.2) := hB.out 2 (by omega)
  have b3 : w.cell? ⟨g, j * 4 + 3, none⟩ = some (.int .i64 y.2) := hB.out 3 (by omega)
  clear hA hB
  have hL' := Lib.hid hL
  clear hL
  by_cases hlt : x.2 < y.2
  · have e1 : ahd lt x y = !lt y.1 x.1 := by unfold ahd; rw [if_pos hlt]
    rw [e1]
    clear e1
    go_enter Try.func78, Try.ntmps78
    go_wp2
    go_region
    all_goals
      go_wp2_with (go_at_call 96; refine (isLess hL'.out _ y.1 x.1 _ (by simp; omega) (by go_simp)).mono ?_; rintro e w1 ⟨rfl, hb⟩)
      go_ret
      exact ⟨rfl, (((Below.refl _ _).alloc (Nat.le_refl _) _).alloc (by simp) _).drew.trans (hb.mono (by simp; omega))⟩
  · have e1 : ahd lt x y = lt x.1 y.1 := by unfold ahd; rw [if_neg hlt]
    rw [e1]
    clear e1
    go_enter Try.func78, Try.ntmps78
    go_wp2
    go_region
    all_goals
      go_wp2_with (go_at_call 96; refine (isLess hL'.out _ x.1 y.1 _ (by simp; omega) (by go_simp)).mono ?_; rintro e w1 ⟨rfl, hb⟩)
      go_ret
      exact ⟨rfl, (((Below.refl _ _).alloc (Nat.le_refl _) _).alloc (by simp) _).drew.trans (hb.mono (by simp; omega))⟩

end Go.Proofs.Ytkloaekmjnbacaa.HV
