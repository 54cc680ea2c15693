/-
  Parse: what it answers. Conditions: the library's tables are laid.
-/
import Derived.Test.YtgedcalplfnjmaaDoorParG
namespace Go.Proofs.YtgedcalplfnjmaaDoor
open Go.RowKit Go.Proofs.YtgedcalplfnjmaaDoor.LexM Go.Proofs.YtgedcalplfnjmaaDoor.ParM

/-- What Parse leaves. -/
def ParP (l : List UInt8) (w : World) (e : Ending) (w' : World) : Prop := ∃ bv ev, e = .returned (.tuple #[.agg #[bv, ev], .int .i64 (par l).2.1, .int .i64 (par l).1]) ∧ BlsAt w' bv (par l).2.2.1 ∧ EdsAt w' ev (par l).2.2.2 ∧ Below w.heap.size w w'
/-- A shape's box filled. -/
theorem shape_set {w wk : World} {b : Nat} {T : TypeId} {c0 c1 : Value} (h : wk.heap[b]? = some (.cells #[c0, c1] T (0, 0))) (hb : w.heap.size ≤ b) (hw : Below w.heap.size w wk) (v0 v1 : Value) {w6 : World}
    (e : ((wk.setCell ⟨b, 0, none⟩ v0).setCell ⟨b, 1, none⟩ v1) = w6) :
    w6.cell? ⟨b, 0, none⟩ = some v0 ∧ w6.cell? ⟨b, 1, none⟩ = some v1 ∧ Below w.heap.size w w6 ∧ Out (fun x => x = b) wk w6 := by
  subst e
  have hc := heap_setCell_at (heap_setCell_at h 0 v0) 1 v1
  have ho : Out (fun x => x = b) wk ((wk.setCell ⟨b, 0, none⟩ v0).setCell ⟨b, 1, none⟩ v1) := ((Out.refl _ wk).setIn _ _).setIn _ _
  have hx : ∀ j v, ((#[c0, c1].setIfInBounds 0 v0).setIfInBounds 1 v1)[j]? = some v → ((wk.setCell ⟨b, 0, none⟩ v0).setCell ⟨b, 1, none⟩ v1).cell? ⟨b, j, none⟩ = some v := fun j v hv => by
    simp only [World.cell?, hc]
    exact hv
  exact ⟨hx 0 v0 rfl, hx 1 v1 rfl, hw.trans (ho.below hw.size (fun i _ e => by omega)), ho⟩
/-- The result's box is still empty. -/
structure RcAt (w wk : World) : Prop where
  below : Below w.heap.size w wk
  blk : wk.heap[w.heap.size]? = some (.cells #[.slice none 0 0, .slice none 0 0] 31 (0, 0))
theorem RcAt.step {w wk wl : World} (h : RcAt w wk) (b : Below wk.heap.size wk wl) : RcAt w wl := by
  have hlt : w.heap.size < wk.heap.size := (Array.getElem?_eq_some_iff.1 h.blk).1
  exact ⟨h.below.trans (b.mono h.below.size), by rw [b.block _ hlt]; exact h.blk⟩
theorem RcAt.c {w wk : World} (h : RcAt w wk) : wk.cell? ⟨w.heap.size, 0, none⟩ = some (.slice none 0 0) ∧ wk.cell? ⟨w.heap.size, 1, none⟩ = some (.slice none 0 0) ∧ wk.frozen? ⟨w.heap.size, 0, none⟩ = false ∧ wk.frozen? ⟨w.heap.size, 1, none⟩ = false ∧ w.heap.size < wk.heap.size := by
  have h1 := h.blk
  refine ⟨by simp [World.cell?, h1], by simp [World.cell?, h1], ?_, ?_, (Array.getElem?_eq_some_iff.1 h1).1⟩
  · simp only [World.frozen?, h1]; simp
  · simp only [World.frozen?, h1]; simp
theorem par_long {s : List UInt8} (h : lnE s ≠ 0) : par s = (lnE s, 0, [], []) := by unfold par; rw [if_pos h]
theorem lnL_short {l : List UInt8} : ∀ p ∈ lnL l, p.length ≤ l.length := by
  intro p hp
  unfold lnL at hp
  split at hp
  · obtain ⟨a, b, e⟩ := List.append_of_mem hp
    have h := congrArg List.length (glue_ps 10 l)
    rw [e, glue_append] at h
    simp [glue] at h
    omega
  · simp at hp
theorem lnE_zero {l : List UInt8} (h : lnE l = 0) : l.length ≤ 1048576 := by
  unfold lnE at h
  split at h
  · cases h
  · omega
theorem StrsAt.nth8 {w : World} {v : Value} {L : List (List UInt8)} (h : StrsAt w v L) {i : Nat} (hi : i < L.length) : ∃ b o cap, v = .slice (some ⟨b, o, none⟩) L.length cap ∧ b < w.heap.size ∧ w.cell? ⟨b, o + i, none⟩ = some (.string (bs L[i])) := by
  obtain ⟨A, cap, rfl, _, hA⟩ := h
  obtain ⟨b, o, rfl, hb, hc⟩ := hA (by omega)
  exact ⟨b, o, cap, rfl, hb, hc i hi⟩


end Go.Proofs.YtgedcalplfnjmaaDoor
