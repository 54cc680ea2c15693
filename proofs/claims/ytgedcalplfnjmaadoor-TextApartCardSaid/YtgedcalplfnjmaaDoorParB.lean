/-
  What the program's readEdge answers. Conditions: texts of at most 2000000 bytes.
-/
import Derived.Test.YtgedcalplfnjmaaDoorParA
namespace Go.Proofs.YtgedcalplfnjmaaDoor
open Go.RowKit Go.Proofs.YtgedcalplfnjmaaDoor.LexM Go.Proofs.YtgedcalplfnjmaaDoor.ParM



/-- An edge's box that is still empty, and words beside it. -/
structure EdSt (w wk : World) (g o : Nat) (L : List (List UInt8)) : Prop where
  below : Below w.heap.size w wk
  blk : wk.heap[w.heap.size]? = some (.cells #[.int .i64 0, .int .i64 0, .int .i64 0, .string ByteArray.empty] 23 (0, 0))
  gl : g < wk.heap.size
  cell : ∀ k (h : k < L.length), wk.cell? ⟨g, o + k, none⟩ = some (.string (bs L[k]))
theorem EdSt.step {w wk wl : World} {g o : Nat} {L : List (List UInt8)} (h : EdSt w wk g o L) (b : Below wk.heap.size wk wl) : EdSt w wl g o L := by
  have hlt : w.heap.size < wk.heap.size := (Array.getElem?_eq_some_iff.1 h.blk).1
  refine ⟨h.below.trans (b.mono h.below.size), by rw [b.block _ hlt]; exact h.blk, Nat.lt_of_lt_of_le h.gl b.size, fun k hk => ?_⟩
  rw [b.cell (p := ⟨g, o + k, none⟩) h.gl]; exact h.cell k hk
theorem EdSt.c0 {w wk : World} {g o : Nat} {L : List (List UInt8)} (h : EdSt w wk g o L) : wk.cell? ⟨w.heap.size, 0, none⟩ = some (.int .i64 0) ∧ wk.cell? ⟨w.heap.size, 1, none⟩ = some (.int .i64 0) ∧ wk.cell? ⟨w.heap.size, 2, none⟩ = some (.int .i64 0) ∧ wk.cell? ⟨w.heap.size, 3, none⟩ = some (.string ByteArray.empty) := by
  have h := h.blk
  refine ⟨?_, ?_, ?_, ?_⟩ <;> simp [World.cell?, h]
theorem EdSt.fr {w wk : World} {g o : Nat} {L : List (List UInt8)} (h : EdSt w wk g o L) (j : Nat) : wk.frozen? ⟨w.heap.size, j, none⟩ = false := by
  have h := h.blk
  simp only [World.frozen?, h]; simp
theorem EdSt.lt {w wk : World} {g o : Nat} {L : List (List UInt8)} (h : EdSt w wk g o L) : w.heap.size < wk.heap.size := (Array.getElem?_eq_some_iff.1 h.blk).1
/-- The box filled. -/
theorem edge_set {w wk : World} {b : Nat} {T : TypeId} {c0 c1 c2 c3 : Value} (h : wk.heap[b]? = some (.cells #[c0, c1, c2, c3] T (0, 0))) (hb : w.heap.size ≤ b) (hw : Below w.heap.size w wk) (v0 v1 v2 v3 : Value) {w6 : World}
    (e : ((((wk.setCell ⟨b, 0, none⟩ v0).setCell ⟨b, 1, none⟩ v1).setCell ⟨b, 2, none⟩ v2).setCell ⟨b, 3, none⟩ v3) = w6) :
    w6.cell? ⟨b, 0, none⟩ = some v0 ∧ w6.cell? ⟨b, 1, none⟩ = some v1 ∧ w6.cell? ⟨b, 2, none⟩ = some v2 ∧ w6.cell? ⟨b, 3, none⟩ = some v3 ∧ Below w.heap.size w w6 := by
  subst e
  have hc := heap_setCell_at (heap_setCell_at (heap_setCell_at (heap_setCell_at h 0 v0) 1 v1) 2 v2) 3 v3
  have ho : Out (fun x => x = b) wk ((((wk.setCell ⟨b, 0, none⟩ v0).setCell ⟨b, 1, none⟩ v1).setCell ⟨b, 2, none⟩ v2).setCell ⟨b, 3, none⟩ v3) := ((((Out.refl _ wk).setIn _ _).setIn _ _).setIn _ _).setIn _ _
  have hx : ∀ j v, ((((#[c0, c1, c2, c3].setIfInBounds 0 v0).setIfInBounds 1 v1).setIfInBounds 2 v2).setIfInBounds 3 v3)[j]? = some v → ((((wk.setCell ⟨b, 0, none⟩ v0).setCell ⟨b, 1, none⟩ v1).setCell ⟨b, 2, none⟩ v2).setCell ⟨b, 3, none⟩ v3).cell? ⟨b, j, none⟩ = some v := fun j v hv => by
    simp only [World.cell?, hc]
    exact hv
  exact ⟨hx 0 v0 rfl, hx 1 v1 rfl, hx 2 v2 rfl, hx 3 v3 rfl, hw.trans (ho.below hw.size (fun i _ e => by omega))⟩

def EdgP (n : Nat) (l : List UInt8) (w : World) (e : Ending) (w' : World) : Prop := e = .returned (.tuple #[valE (edgV n l), .int .i64 (edgE n l)]) ∧ Below w.heap.size w w'
theorem bs_nil : bs [] = ByteArray.empty := rfl
theorem edg_bad {n : Nat} {l : List UInt8} (h : (wdL l).length < 3 ∨ 4 < (wdL l).length) : edgE n l = 4 ∧ edgV n l = noE := by
  unfold edgE edgV
  split
  · rename_i e; rw [e] at h; simp at h
  · rename_i e; rw [e] at h; simp at h
  · exact ⟨rfl, rfl⟩

/-- What is answered, said of the words. -/
theorem edg_words {n : Nat} {l : List UInt8} {L : List (List UInt8)} (hL : wdL l = L) (h3 : 3 ≤ L.length) (h4 : L.length ≤ 4) (t : List UInt8) (ht : t = L.getD 3 []) :
    edgE n l = edgW n (L.getD 0 []) (L.getD 1 []) (L.getD 2 []) t ∧ edgV n l = edgX n (L.getD 0 []) (L.getD 1 []) (L.getD 2 []) t := by
  subst ht
  unfold edgE edgV
  rw [hL]
  match L, h3, h4 with
  | [a, d, b], _, _ => exact ⟨rfl, rfl⟩
  | [a, d, b, t], _, _ => exact ⟨rfl, rfl⟩
theorem edgX_no {n : Nat} {a d b t : List UInt8} {z : Int} (h : edgW n a d b t = z) (hz : z ≠ 0) : edgX n a d b t = noE := by unfold edgX; rw [if_neg (by rw [h]; exact hz)]

theorem wdL_short {l : List UInt8} : ∀ p ∈ wdL l, p.length ≤ l.length := by
  intro p hp
  unfold wdL at hp
  split at hp
  · have hg : glue 32 (pieces 32 l) = l ++ [32] := by
      have h2 : glue 32 [(ps 32 l).2] = (ps 32 l).2 ++ [32] := by simp [glue]
      rw [pieces_ps, glue_append, h2, ← List.append_assoc, glue_ps]
    obtain ⟨a, b, e⟩ := List.append_of_mem hp
    have h2 := congrArg List.length hg
    rw [e, glue_append] at h2
    simp [glue] at h2
    omega
  · simp at hp

end Go.Proofs.YtgedcalplfnjmaaDoor
