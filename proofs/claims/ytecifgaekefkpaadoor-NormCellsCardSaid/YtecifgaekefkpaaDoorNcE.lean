/-
  A layout under way in memory: its count, the first cells, the edges' ways, each in a row of its own; what a store leaves; the next cell taken. Conditions: none.
-/
import Derived.Test.YtecifgaekefkpaaDoorNcD
namespace Go
/-- Append with room: in place. -/
theorem run_append_in {P : Program} (w : World) (base : Nat) (t ty e : TypeId) (i : TypeInfo) (z : Value) (size bytes : Nat) (ht : P.underlying t = some (.slice e)) (hi : P.info? e = some i) (hz : i.zero = some z)
    (hsize : i.size = size) (hby : i.bytes = bytes) (hzs : z.cells.size = size) (hsz : 0 < size)
    (g n cap : Nat) (xs : List Value) (hown : w.ownsRow base e size (.slice (some ⟨g, 0, none⟩) n cap) n xs)
    (a : Addr) (m c : Nat) (news : List Value) (hl : news.length = m * size) (hnews : ∀ j u, news[j]? = some u → w.cell? (a.add j) = some u) (h1 : ∀ u ∈ news, u.oneCell' = true)
    (h63 : n + m ≤ maxLen) (hbytes : (n + m) * bytes ≤ 140737488355328) (hbase : base ≤ w.heap.size) (hroom : n + m ≤ cap) :
    ∃ w', (Builtin.append_ #[t, t] ty #[.slice (some ⟨g, 0, none⟩) n cap, .slice (some a) m c]).run P w = .ok (.slice (some ⟨g, 0, none⟩) (n + m) cap) w' ∧ w'.ownsRow base e size (.slice (some ⟨g, 0, none⟩) (n + m) cap) (n + m) (xs ++ news) ∧ w.grownBy w' (some g) := by
  obtain ⟨v', w', hrun, r1, r2, _⟩ := run_append_own (P := P) w base t ty e i z size bytes ht hi hz hsize hby hzs hsz _ n xs hown a m c news hl hnews h1 h63 hbytes hbase
  have same : ∀ {v2 : Value} {w2 : World}, (Builtin.append_ #[t, t] ty #[.slice (some ⟨g, 0, none⟩) n cap, .slice (some a) m c]).run P w = .ok v2 w2 → v' = v2 := fun h => by
    rw [hrun] at h
    injection h
  rcases hown.2 with ⟨hv, hn⟩ | ⟨g', cap', cur, hv, hbg, hg, hnc, hcm, hcs, htake⟩
  · simp at hv
  · simp only [Value.slice.injEq, Option.some.injEq, Addr.mk.injEq, and_true, true_and] at hv
    obtain ⟨rfl, rfl⟩ := hv
    subst hsize
    have hfit : ∀ j, j < news.length → n * i.size + j < cur.size := fun j hj => by
      rw [hcs]
      have := Nat.mul_le_mul_right i.size hroom
      rw [Nat.add_mul] at this
      omega
    have hr := run_append_room_cells (P := P) w t ty e i ht hi g 0 n cap a m c news hl hnews h1 hroom
      (fun j hj => by rw [Nat.zero_add, cell_of_row w g _ cur e (0, 0) hg, Array.getElem?_eq_getElem (hfit j hj)]; rfl) (fun j _ => frozen_of_row w g _ cur e hg)
    have := same hr
    subst this
    exact ⟨w', hrun, r1, r2⟩
end Go
namespace Go.Proofs.YtecifgaekefkpaaDoor
open Go.RowKit Go.Proofs.YtecifgaekefkpaaDoor.LexM Go.Proofs.YtecifgaekefkpaaDoor.ParM Go.Proofs.YtecifgaekefkpaaDoor.GrM Go.Proofs.YtecifgaekefkpaaDoor.NmM

/-- A layout: at lb; the first cells in the row fb, the ways in the row ob, each way in a row behind s0. -/
structure LyAt (B s0 nE : Nat) (ln : Nat → Nat) (lb ob fb cF : Nat) (w : World) (cnt : Nat) (F : List Int) (nF : Nat) (xv : Value) (W : Nat → List Int) : Prop where
  nums : B ≤ lb ∧ B ≤ ob ∧ B ≤ fb ∧ lb < s0 ∧ ob < s0 ∧ fb < s0 ∧ lb ≠ ob ∧ lb ≠ fb ∧ ob ≠ fb
  blk : w.heap[lb]? = some (.cells #[.int .i64 cnt, .slice (some ⟨fb, 0, none⟩) nF cF, xv, .slice (some ⟨ob, 0, none⟩) nE nE] 64 (0, 0))
  fst : F.length = nF ∧ w.ownsRow B 3 1 (.slice (some ⟨fb, 0, none⟩) nF cF) nF (F.map intV)
  out : w.ownsRow B 32 1 (.slice (some ⟨ob, 0, none⟩) nE nE) nE ((List.range nE).map fun i => .slice (some ⟨s0 + 2 * i + 1, 0, none⟩) (ln i) (ln i))
  row : ∀ i, i < nE → (W i).length = ln i ∧ w.ownsRow B 3 1 (.slice (some ⟨s0 + 2 * i + 1, 0, none⟩) (ln i) (ln i)) (ln i) ((W i).map intV)
section
variable {B s0 nE : Nat} {ln : Nat → Nat} {lb ob fb cF : Nat} {w w' : World} {cnt nF : Nat} {F : List Int} {xv : Value} {W : Nat → List Int}
theorem LyAt.lt (h : LyAt B s0 nE ln lb ob fb cF w cnt F nF xv W) : lb < w.heap.size := (Array.getElem?_eq_some_iff.1 h.blk).1
theorem LyAt.past (h : LyAt B s0 nE ln lb ob fb cF w cnt F nF xv W) {S : Nat → Prop} (o : Out S w w') (hS : ∀ b, S b → s0 + 2 * nE ≤ b) : LyAt B s0 nE ln lb ob fb cF w' cnt F nF xv W := by
  obtain ⟨n0, n1, n2, n3, n4, n5, n6, n7, n8⟩ := h.nums
  have keep : ∀ {g n c : Nat} {e : TypeId} {k : Nat} {xs : List Value}, w.ownsRow B e k (.slice (some ⟨g, 0, none⟩) n c) n xs → g < s0 + 2 * nE → w'.ownsRow B e k (.slice (some ⟨g, 0, none⟩) n c) n xs := fun hr hg =>
    ownsRow_out hr o (fun b hb e => by simp only [Value.ownBlock, Option.some.injEq] at hb; subst hb; have := hS _ e; omega)
  exact ⟨h.nums, (o.block lb h.lt (fun e => by have := hS _ e; omega)).trans h.blk, ⟨h.fst.1, keep h.fst.2 (by omega)⟩, keep h.out (by omega), fun i hi => ⟨(h.row i hi).1, keep (h.row i hi).2 (by omega)⟩⟩
theorem LyAt.below {C : Nat} (h : LyAt B s0 nE ln lb ob fb cF w cnt F nF xv W) (o : Below C w w') (hC : w.heap.size ≤ C) : LyAt B s0 nE ln lb ob fb cF w' cnt F nF xv W :=
  h.past (S := fun _ => False) (Out.ofBelow (o.mono hC)) (fun _ e => e.elim)
theorem LyAt.at_ (h : LyAt B s0 nE ln lb ob fb cF w cnt F nF xv W) : w.cell? ⟨lb, 0, none⟩ = some (.int .i64 cnt) ∧ w.cell? ⟨lb, 1, none⟩ = some (.slice (some ⟨fb, 0, none⟩) nF cF) ∧ w.cell? ⟨lb, 2, none⟩ = some xv ∧ w.cell? ⟨lb, 3, none⟩ = some (.slice (some ⟨ob, 0, none⟩) nE nE) := by
  have hb := h.blk
  exact ⟨by simp [World.cell?, hb], by simp [World.cell?, hb], by simp [World.cell?, hb], by simp [World.cell?, hb]⟩
theorem LyAt.fr (h : LyAt B s0 nE ln lb ob fb cF w cnt F nF xv W) (j : Nat) : w.frozen? ⟨lb, j, none⟩ = false := by
  simp only [World.frozen?, h.blk]
  simp
theorem LyAt.ol (h : LyAt B s0 nE ln lb ob fb cF w cnt F nF xv W) : ob < w.heap.size := (World.ownsRow.lt h.out ob rfl).2
theorem LyAt.way (h : LyAt B s0 nE ln lb ob fb cF w cnt F nF xv W) {i : Nat} (hi : i < nE) : w.cell? ⟨ob, i, none⟩ = some (.slice (some ⟨s0 + 2 * i + 1, 0, none⟩) (ln i) (ln i)) ∧ s0 + 2 * i + 1 < w.heap.size := by
  refine ⟨?_, (World.ownsRow.lt (h.row i hi).2 _ rfl).2⟩
  rw [World.ownsRow.cellAt h.out i (by omega)]
  simp [hi]
theorem LyAt.wayC (h : LyAt B s0 nE ln lb ob fb cF w cnt F nF xv W) {i p : Nat} (hi : i < nE) (hp : p < ln i) : w.cell? ⟨s0 + 2 * i + 1, p, none⟩ = some (.int .i64 ((W i).getD p 0)) ∧ w.frozen? ⟨s0 + 2 * i + 1, p, none⟩ = false := by
  obtain ⟨h1, h2⟩ := h.row i hi
  refine ⟨?_, World.ownsRow.frozenAt h2 p⟩
  rw [World.ownsRow.cellAt h2 p (by omega), List.getElem?_map, List.getElem?_eq_getElem (by omega), List.getD_eq_getElem?_getD, List.getElem?_eq_getElem (by omega)]; rfl
theorem out_set (w : World) (p : Addr) (u : Value) : Out (fun b => b = p.block) w (w.setCell p u) := Out.setCell (S := fun b => b = p.block) (Out.refl _ w) (p := p) (fun _ => rfl) u
/-- The count told anew. -/
theorem LyAt.took (h : LyAt B s0 nE ln lb ob fb cF w cnt F nF xv W) (c' : Nat) : LyAt B s0 nE ln lb ob fb cF (w.setCell ⟨lb, 0, none⟩ (.int .i64 c')) c' F nF xv W := by
  obtain ⟨n0, n1, n2, n3, n4, n5, n6, n7, n8⟩ := h.nums
  have o := out_set w ⟨lb, 0, none⟩ (.int .i64 c')
  have keep : ∀ {g n c : Nat} {e : TypeId} {k : Nat} {xs : List Value}, w.ownsRow B e k (.slice (some ⟨g, 0, none⟩) n c) n xs → g ≠ lb → (w.setCell ⟨lb, 0, none⟩ (.int .i64 c')).ownsRow B e k (.slice (some ⟨g, 0, none⟩) n c) n xs := fun hr hg =>
    ownsRow_out hr o (fun b hb e => by simp only [Value.ownBlock, Option.some.injEq] at hb; subst hb; exact hg e)
  refine ⟨h.nums, ?_, ⟨h.fst.1, keep h.fst.2 (fun e => n7 e.symm)⟩, keep h.out (fun e => n6 e.symm), fun i hi => ⟨(h.row i hi).1, keep (h.row i hi).2 (by omega)⟩⟩
  rw [heap_setCell_at h.blk]; rfl
/-- The boxes told anew. -/
theorem LyAt.boxed (h : LyAt B s0 nE ln lb ob fb cF w cnt F nF xv W) (xv' : Value) : LyAt B s0 nE ln lb ob fb cF (w.setCell ⟨lb, 2, none⟩ xv') cnt F nF xv' W := by
  obtain ⟨n0, n1, n2, n3, n4, n5, n6, n7, n8⟩ := h.nums
  have o := out_set w ⟨lb, 2, none⟩ xv'
  have keep : ∀ {g n c : Nat} {e : TypeId} {k : Nat} {xs : List Value}, w.ownsRow B e k (.slice (some ⟨g, 0, none⟩) n c) n xs → g ≠ lb → (w.setCell ⟨lb, 2, none⟩ xv').ownsRow B e k (.slice (some ⟨g, 0, none⟩) n c) n xs := fun hr hg =>
    ownsRow_out hr o (fun b hb e => by simp only [Value.ownBlock, Option.some.injEq] at hb; subst hb; exact hg e)
  refine ⟨h.nums, ?_, ⟨h.fst.1, keep h.fst.2 (fun e => n7 e.symm)⟩, keep h.out (fun e => n6 e.symm), fun i hi => ⟨(h.row i hi).1, keep (h.row i hi).2 (by omega)⟩⟩
  rw [heap_setCell_at h.blk]; rfl
/-- A cell told in a way. -/
theorem LyAt.told (h : LyAt B s0 nE ln lb ob fb cF w cnt F nF xv W) {i : Nat} (hi : i < nE) (p : Nat) (x : Int) : LyAt B s0 nE ln lb ob fb cF (w.setCell ⟨s0 + 2 * i + 1, p, none⟩ (.int .i64 x)) cnt F nF xv (fun j => if j = i then (W i).set p x else W j) := by
  obtain ⟨n0, n1, n2, n3, n4, n5, n6, n7, n8⟩ := h.nums
  have o := out_set w ⟨s0 + 2 * i + 1, p, none⟩ (.int .i64 x)
  have keep : ∀ {g n c : Nat} {e : TypeId} {k : Nat} {xs : List Value}, w.ownsRow B e k (.slice (some ⟨g, 0, none⟩) n c) n xs → g ≠ s0 + 2 * i + 1 → (w.setCell ⟨s0 + 2 * i + 1, p, none⟩ (.int .i64 x)).ownsRow B e k (.slice (some ⟨g, 0, none⟩) n c) n xs := fun hr hg =>
    ownsRow_out hr o (fun b hb e => by simp only [Value.ownBlock, Option.some.injEq] at hb; subst hb; exact hg e)
  refine ⟨h.nums, (o.block lb h.lt (fun e => by change lb = s0 + 2 * i + 1 at e; omega)).trans h.blk, ⟨h.fst.1, keep h.fst.2 (by omega)⟩, keep h.out (by omega), fun j hj => ?_⟩
  by_cases e : j = i
  · subst e
    simp only [if_true]
    obtain ⟨h1, h2⟩ := h.row j hj
    refine ⟨by rw [List.length_set]; exact h1, ?_⟩
    rw [List.map_set]
    exact (World.ownsRow.stored h2 p (.int .i64 x)).1
  · simp only [if_neg e]
    exact ⟨(h.row j hj).1, keep (h.row j hj).2 (by omega)⟩
end
theorem takeY {w : World} (lb cnt : Nat) (h0 : w.cell? ⟨lb, 0, none⟩ = some (.int .i64 cnt)) (h1 : w.frozen? ⟨lb, 0, none⟩ = false) (hc : cnt ≤ 1000000000000) :
    Calls Tryd.prog 37 #[.pointer (some ⟨lb, 0, none⟩)] w fun e w' => e = .returned (.int .i64 cnt) ∧ w' = w.setCell ⟨lb, 0, none⟩ (.int .i64 ((cnt + 1 : Nat) : Int)) := by
  have hl := lt_of_cell h0
  have cw : IntKind.i64.wrap ((cnt : Int) + 1) = (cnt : Int) + 1 := IntWalk.i64_in _ (by omega)
  go_enter Tryd.func37, Tryd.ntmps37
  go_wp2
  go_ret
  exact ⟨ret_int (by omega), rfl⟩
end Go.Proofs.YtecifgaekefkpaaDoor
