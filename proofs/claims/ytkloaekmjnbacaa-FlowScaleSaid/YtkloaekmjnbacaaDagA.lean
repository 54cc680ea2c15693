/-
  A row of arcs, a row of ints in memory; whether a graph may be. Conditions: none.
-/
import Derived.Test.YtkloaekmjnbacaaHeapRow
import Derived.Test.YtkloaekmjnbacaaDagM
import Derived.Shelf.Abstract
namespace Go.Proofs.Ytkloaekmjnbacaa
open Go.RowKit Go.Proofs.Ytkloaekmjnbacaa.DagM

/-- The arcs L in memory. -/
def ArcsAt (w : World) (v : Value) (L : List Arc) : Prop :=
  ∃ A cap, v = .slice A L.length cap ∧ L.length ≤ cap ∧ (0 < L.length → ∃ b o, A = some ⟨b, o, none⟩ ∧ b < w.heap.size ∧ ∀ k (h : k < L.length),
    w.cell? ⟨b, o + k * 3, none⟩ = some (.int .i64 L[k].1) ∧ w.cell? ⟨b, o + k * 3 + 1, none⟩ = some (.int .i64 L[k].2.1) ∧ w.cell? ⟨b, o + k * 3 + 2, none⟩ = some (.int .i64 L[k].2.2))
/-- The numbers x in memory. -/
def IntsAt (w : World) (v : Value) (x : List Int) : Prop :=
  ∃ A cap, v = .slice A x.length cap ∧ x.length ≤ cap ∧ (0 < x.length → ∃ b o, A = some ⟨b, o, none⟩ ∧ b < w.heap.size ∧ ∀ k (h : k < x.length), w.cell? ⟨b, o + k, none⟩ = some (.int .i64 x[k]))
theorem ArcsAt.below {w w' : World} {v : Value} {L : List Arc} (h : ArcsAt w v L) (hb : Below w.heap.size w w') : ArcsAt w' v L := by
  obtain ⟨A, cap, rfl, hc, hA⟩ := h
  refine ⟨A, cap, rfl, hc, fun h0 => ?_⟩
  obtain ⟨b, o, e, hlt, h⟩ := hA h0
  refine ⟨b, o, e, Nat.lt_of_lt_of_le hlt hb.size, fun k hk => ?_⟩
  have := h k hk
  rw [hb.cell (p := ⟨b, o + k * 3, none⟩) hlt, hb.cell (p := ⟨b, o + k * 3 + 1, none⟩) hlt, hb.cell (p := ⟨b, o + k * 3 + 2, none⟩) hlt]
  exact this
theorem IntsAt.below {w w' : World} {v : Value} {L : List Int} (h : IntsAt w v L) (hb : Below w.heap.size w w') : IntsAt w' v L := by
  obtain ⟨A, cap, rfl, hc, hA⟩ := h
  refine ⟨A, cap, rfl, hc, fun h0 => ?_⟩
  obtain ⟨b, o, e, hlt, h⟩ := hA h0
  refine ⟨b, o, e, Nat.lt_of_lt_of_le hlt hb.size, fun k hk => ?_⟩
  rw [hb.cell (p := ⟨b, o + k, none⟩) hlt]
  exact h k hk

theorem belowN {B : Nat} {a w : World} (h : Below B a w) (n : Nat) : Below B a (w.drewN n) := h.trans ⟨rfl, rfl, rfl, Nat.le_refl _, fun _ _ => rfl⟩
theorem isNode (n v : Int) (c : Nat) (w : World) (h : w.cell? ⟨c, 0, none⟩ = some (.int .i64 n)) :
    Calls Try.prog 55 #[.int .i64 v, .pointer (some ⟨c, 0, none⟩)] w fun e w' => e = .returned (.bool (decide (0 ≤ v) && decide (v < n))) ∧ w = w' := by
  go_enter Try.func55, Try.ntmps55
  go_wp2
  all_goals
    go_ret
    simp_all
  all_goals omega

/-- What mayBe's closure looks at: a function, and the number of nodes. -/
structure ClosAt (n : Int) (w : World) (c d : Nat) : Prop where
  c0 : w.cell? ⟨c, 0, none⟩ = some (.func (.func 55) #[] #[.pointer (some ⟨d, 0, none⟩)])
  d0 : w.cell? ⟨d, 0, none⟩ = some (.int .i64 n)
  cl : c < w.heap.size
  dl : d < w.heap.size
theorem ClosAt.below {n : Int} {w w' : World} {c d : Nat} (h : ClosAt n w c d) (hb : Below w.heap.size w w') : ClosAt n w' c d :=
  ⟨(hb.cell (p := ⟨c, 0, none⟩) h.cl).trans h.c0, (hb.cell (p := ⟨d, 0, none⟩) h.dl).trans h.d0, Nat.lt_of_lt_of_le h.cl hb.size, Nat.lt_of_lt_of_le h.dl hb.size⟩

set_option maxHeartbeats 1000000 in
theorem bad (n : Int) (a : Arc) (c d : Nat) (w : World) (h : ClosAt n w c d) :
    Calls Try.prog 57 #[.agg #[.int .i64 a.1, .int .i64 a.2.1, .int .i64 a.2.2], .pointer (some ⟨c, 0, none⟩)] w fun e w' => e = .returned (.bool (badA n a)) ∧ Below w.heap.size w w' := by
  obtain ⟨x, y, z⟩ := a
  have h0 := h.c0
  have h1 := h.d0
  have h2 := h.cl
  have h3 := h.dl
  have eg := enters_of Try.func55 (by kernel_rfl) rfl
  clear h
  go_enter Try.func57, Try.ntmps57
  go_wp2_with (first
    | (go_at_fn 55; refine (isNode n _ d _ (by go_simp)).mono ?_; rintro e w1 ⟨rfl, rfl⟩)
    | (go_at_call 55; refine (isNode n _ d _ (by go_simp)).mono ?_; rintro e w1 ⟨rfl, rfl⟩))
  all_goals
    go_ret
    refine ⟨ret_bool ?_, (Below.refl _ _).alloc (Nat.le_refl _) _⟩
    rw [Bool.eq_iff_iff]
    simp [badA]
    omega
end Go.Proofs.Ytkloaekmjnbacaa
