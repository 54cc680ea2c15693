/-
  A shape's cells laid out one behind the other: what lay answers. Conditions: a shape that may be written; its ends side by side.
-/
import Derived.Test.YtecifgaekefkpaaDoorNcG
namespace Go.Proofs.YtecifgaekefkpaaDoor
open Go.RowKit Go.Proofs.YtecifgaekefkpaaDoor.LexM Go.Proofs.YtecifgaekefkpaaDoor.ParM Go.Proofs.YtecifgaekefkpaaDoor.GrM Go.Proofs.YtecifgaekefkpaaDoor.NmM

theorem mkZ0 (N : Nat) (hN : N ≤ 10000) (w : World) : (Instr.makeSlice 32 (.int .i64 0) (.int .i64 (N : Int))).run Tryd.prog w = .ok (.slice (some ⟨w.heap.size, 0, none⟩) 0 N) (w.alloc (.cells (madeCells #[.int .i64 0] N) 3)) := by
  obtain ⟨i, hi, h0, h1, h2⟩ := info_z
  have h := run_make (P := Tryd.prog) w 32 3 i _ Tryd.underlying32 hi h0 .i64 .i64 0 N (by omega) (by omega) (by rw [h2]; omega) (by omega)
  rw [h1] at h
  simpa [Value.cells] using h
theorem mkZN (N : Nat) (hN : N ≤ 10000) (w : World) : (Instr.makeSlice 32 (.int .i64 (N : Int)) (.int .i64 (N : Int))).run Tryd.prog w = .ok (.slice (some ⟨w.heap.size, 0, none⟩) N N) (w.alloc (.cells (madeCells #[.int .i64 0] N) 3)) := by
  obtain ⟨i, hi, h0, h1, h2⟩ := info_z
  have h := run_make (P := Tryd.prog) w 32 3 i _ Tryd.underlying32 hi h0 .i64 .i64 N N (by omega) (by omega) (by rw [h2]; omega) (by omega)
  rw [h1] at h
  simpa [Value.cells] using h
theorem info_zz : ∃ i, Tryd.prog.info? 32 = some i ∧ i.zero = some (.slice none 0 0) ∧ i.size = 1 ∧ i.bytes = 24 := by
  have h : (Tryd.prog.info? 32).map (fun i => (i.zero, i.size, i.bytes)) = some (some (.slice none 0 0), 1, 24) := by kernel_rfl
  cases e : Tryd.prog.info? 32 with
  | none => rw [e] at h; cases h
  | some i =>
    rw [e] at h
    simp only [Option.map_some, Option.some.injEq, Prod.mk.injEq] at h
    exact ⟨i, rfl, h.1, h.2.1, h.2.2⟩
theorem mkZZ (N : Nat) (hN : N ≤ 10000) (w : World) : (Instr.makeSlice 33 (.int .i64 (N : Int)) (.int .i64 (N : Int))).run Tryd.prog w = .ok (.slice (some ⟨w.heap.size, 0, none⟩) N N) (w.alloc (.cells (madeCells #[.slice none 0 0] N) 32)) := by
  obtain ⟨i, hi, h0, h1, h2⟩ := info_zz
  have h := run_make (P := Tryd.prog) w 33 32 i _ Tryd.underlying33 hi h0 .i64 .i64 N N (by omega) (by omega) (by rw [h2]; omega) (by omega)
  rw [h1] at h
  simpa [Value.cells] using h
theorem made_row {w : World} {B g N : Nat} {z : Value} {t : TypeId} (hg : B ≤ g) (h : w.heap[g]? = some (.cells (madeCells #[z] N) t (0, 0))) (hN : N ≤ 10000) : w.ownsRow B t 1 (.slice (some ⟨g, 0, none⟩) N N) N (List.replicate N z) := by
  refine ⟨by simp, Or.inr ⟨g, N, _, rfl, hg, h, Nat.le_refl _, by unfold maxLen; omega, by simp [size_madeCells], ?_⟩⟩
  rw [toList_madeCells_one, List.take_of_length_le (by simp)]
theorem made_row0 {w : World} {B g N : Nat} {z : Value} {t : TypeId} (hg : B ≤ g) (h : w.heap[g]? = some (.cells (madeCells #[z] N) t (0, 0))) (hN : N ≤ 10000) : w.ownsRow B t 1 (.slice (some ⟨g, 0, none⟩) 0 N) 0 [] :=
  ownsRow_shorter (made_row hg h hN) (Nat.zero_le _)
/-- A layout whose ways are being made: so many of them. -/
structure LwAt (B s0 nE : Nat) (ln : Nat → Nat) (lb ob fb cF : Nat) (w : World) (i : Nat) : Prop where
  nums : B ≤ lb ∧ B ≤ ob ∧ B ≤ fb ∧ lb < s0 ∧ ob < s0 ∧ fb < s0 ∧ lb ≠ ob ∧ lb ≠ fb ∧ ob ≠ fb
  blk : w.heap[lb]? = some (.cells #[.int .i64 0, .slice (some ⟨fb, 0, none⟩) 0 cF, .slice none 0 0, .slice (some ⟨ob, 0, none⟩) nE nE] 64 (0, 0))
  fst : w.ownsRow B 3 1 (.slice (some ⟨fb, 0, none⟩) 0 cF) 0 []
  out : w.ownsRow B 32 1 (.slice (some ⟨ob, 0, none⟩) nE nE) nE ((List.range nE).map fun j => if j < i then .slice (some ⟨s0 + 2 * j + 1, 0, none⟩) (ln j) (ln j) else .slice none 0 0)
  row : ∀ j, j < i → w.ownsRow B 3 1 (.slice (some ⟨s0 + 2 * j + 1, 0, none⟩) (ln j) (ln j)) (ln j) (List.replicate (ln j) (.int .i64 0))
  size : w.heap.size = s0 + 2 * i
theorem LwAt.start {B nE : Nat} {ln : Nat → Nat} {lb ob fb cF : Nat} {w : World} (hn : B ≤ lb ∧ B ≤ ob ∧ B ≤ fb ∧ lb < w.heap.size ∧ ob < w.heap.size ∧ fb < w.heap.size ∧ lb ≠ ob ∧ lb ≠ fb ∧ ob ≠ fb)
    (h1 : w.heap[lb]? = some (.cells #[.int .i64 0, .slice (some ⟨fb, 0, none⟩) 0 cF, .slice none 0 0, .slice (some ⟨ob, 0, none⟩) nE nE] 64 (0, 0)))
    (h2 : w.heap[ob]? = some (.cells (madeCells #[.slice none 0 0] nE) 32 (0, 0))) (h3 : w.heap[fb]? = some (.cells (madeCells #[.int .i64 0] cF) 3 (0, 0))) (hE : nE ≤ 10000) (hF : cF ≤ 10000) : LwAt B w.heap.size nE ln lb ob fb cF w 0 := by
  refine ⟨hn, h1, made_row0 hn.2.2.1 h3 hF, ?_, fun j hj => absurd hj (by omega), rfl⟩
  have h := made_row (B := B) hn.2.1 h2 hE
  rw [show (List.range nE).map (fun j => if j < 0 then (Value.slice (some ⟨w.heap.size + 2 * j + 1, 0, none⟩) (ln j) (ln j)) else .slice none 0 0) = List.replicate nE (.slice none 0 0) by
    apply List.ext_getElem?
    intro i
    by_cases h : i < nE <;> simp [h]]
  exact h
theorem LwAt.done {B s0 nE : Nat} {lb ob fb cF : Nat} {w : World} {E : List Edg} (h : LwAt B s0 nE (fun i => nbE E i + 2) lb ob fb cF w nE) : LyAt B s0 nE (fun i => nbE E i + 2) lb ob fb cF w 0 [] 0 (.slice none 0 0) (fun i => wayZ (List.replicate (2 * E.length) 0) (nbE E i) i) := by
  refine ⟨h.nums, h.blk, ⟨rfl, h.fst⟩, ?_, fun i hi => ⟨wayZ_len _ _ _, ?_⟩⟩
  · have e : (List.range nE).map (fun j => if j < nE then (Value.slice (some ⟨s0 + 2 * j + 1, 0, none⟩) (nbE E j + 2) (nbE E j + 2)) else .slice none 0 0) = (List.range nE).map (fun j => (Value.slice (some ⟨s0 + 2 * j + 1, 0, none⟩) (nbE E j + 2) (nbE E j + 2))) :=
      List.map_congr_left (fun j hj => by rw [if_pos (List.mem_range.1 hj)])
    rw [← e]
    exact h.out
  · have e : (wayZ (List.replicate (2 * E.length) 0) (nbE E i) i).map intV = List.replicate (nbE E i + 2) (.int .i64 0) := by
      have z : ∀ j, (List.replicate (2 * E.length) (0 : Int)).getD j 0 = 0 := fun j => by
        rw [List.getD_eq_getElem?_getD, List.getElem?_replicate]; split <;> rfl
      unfold wayZ
      rw [z, z]
      rw [show (0 : Int) :: (List.replicate (nbE E i) 0 ++ [0]) = List.replicate (nbE E i + 2) 0 by rw [← List.replicate_succ', ← List.replicate_succ]]
      rw [List.map_replicate]; rfl
    rw [e]
    exact h.row i hi
/-- A way more. -/
theorem LwAt.step {B s0 nE : Nat} {ln : Nat → Nat} {lb ob fb cF : Nat} {w w' : World} {i : Nat} (h : LwAt B s0 nE ln lb ob fb cF w i) (hi : i < nE) (hl : ln i ≤ 10000) (x : Obj)
    (e : w'.heap = (((w.alloc x).alloc (.cells (madeCells #[.int .i64 0] (ln i)) 3)).setCell ⟨ob, i, none⟩ (.slice (some ⟨w.heap.size + 1, 0, none⟩) (ln i) (ln i))).heap) : LwAt B s0 nE ln lb ob fb cF w' (i + 1) := by
  obtain ⟨n0, n1, n2, n3, n4, n5, n6, n7, n8⟩ := h.nums
  have hs := h.size
  obtain ⟨w1, hw1⟩ : ∃ W, W = (w.alloc x).alloc (.cells (madeCells #[.int .i64 0] (ln i)) 3) := ⟨_, rfl⟩
  have b1 : Below w.heap.size w w1 := by rw [hw1]; exact ((Below.refl _ _).alloc (Nat.le_refl _) _).alloc (by simp) _
  rw [← hw1] at e
  have hnew : w1.heap[w.heap.size + 1]? = some (.cells (madeCells #[.int .i64 0] (ln i)) 3 (0, 0)) := by rw [hw1]; exact heap_two w _ _
  have hsz : w1.heap.size = s0 + 2 * (i + 1) := by rw [hw1]; simp [hs]; omega
  clear hw1
  have old : ∀ q, q < w.heap.size → q ≠ ob → w'.heap[q]? = w.heap[q]? := fun q hq hne => by rw [e, Below.heap_setCell _ _ _ _ hne, b1.block q hq]
  have keep : ∀ {g n c : Nat} {T : TypeId} {k : Nat} {xs : List Value}, w.ownsRow B T k (.slice (some ⟨g, 0, none⟩) n c) n xs → g ≠ ob → w'.ownsRow B T k (.slice (some ⟨g, 0, none⟩) n c) n xs := fun hr hg =>
    ownsRow_block hr (fun b hb => by
      simp only [Value.ownBlock, Option.some.injEq] at hb; subst hb
      exact old _ (World.ownsRow.lt hr _ rfl).2 hg)
  refine ⟨h.nums, ?_, keep h.fst (fun e => n8 e.symm), ?_, fun j hj => ?_, ?_⟩
  · rw [old lb (Array.getElem?_eq_some_iff.1 h.blk).1 n6]; exact h.blk
  · have h1 : w1.ownsRow B 32 1 (.slice (some ⟨ob, 0, none⟩) nE nE) nE ((List.range nE).map fun j => if j < i then .slice (some ⟨s0 + 2 * j + 1, 0, none⟩) (ln j) (ln j) else .slice none 0 0) := ownsRow_out (S := fun _ => False) h.out (Out.ofBelow b1) (fun _ _ e => e)
    have h2 := (World.ownsRow.stored h1 i (.slice (some ⟨w.heap.size + 1, 0, none⟩) (ln i) (ln i))).1
    rw [show (List.range nE).map (fun j => if j < i + 1 then (Value.slice (some ⟨s0 + 2 * j + 1, 0, none⟩) (ln j) (ln j)) else .slice none 0 0) = ((List.range nE).map fun j => if j < i then (Value.slice (some ⟨s0 + 2 * j + 1, 0, none⟩) (ln j) (ln j)) else .slice none 0 0).set i (.slice (some ⟨w.heap.size + 1, 0, none⟩) (ln i) (ln i)) by
      rw [← fn_set]
      exact List.map_congr_left (fun j hj => by
        by_cases e1 : j = i
        · subst e1; rw [if_pos (by omega), if_pos rfl, hs]
        · rw [if_neg e1]
          by_cases e2 : j < i
          · rw [if_pos e2, if_pos (by omega)]
          · rw [if_neg e2, if_neg (by omega)])]
    exact ownsRow_block h2 (fun b hb => by rw [e])
  · by_cases e1 : j = i
    · subst e1
      rw [← hs]
      refine made_row (by omega) ?_ hl
      rw [e, Below.heap_setCell _ _ _ _ (by show w.heap.size + 1 ≠ ob; omega)]
      exact hnew
    · exact keep (h.row j (by omega)) (by omega)
  · rw [e]
    show (w1.setCell _ _).heap.size = _
    simpa [World.setCell] using hsz
end Go.Proofs.YtecifgaekefkpaaDoor
