/-
  Rows of rows in memory (of the call's own, or read only); a row of numbers told by a function; spans. Conditions: none.
-/
import Derived.Test.YtkloaekmjnbacaaDagS
import Derived.Test.YtkloaekmjnbacaaDagE
import Derived.Test.YtkloaekmjnbacaaLayM
import Derived.Lib.Slices
namespace Go.Proofs.Ytkloaekmjnbacaa
open Go.RowKit Go.Proofs.Ytkloaekmjnbacaa.DagM

/-- Rows V of the call's own, that hold R, in a row at g. -/
structure RwsAt (w0 w : World) (g N : Nat) (V : Nat → Value) (R : Nat → List Nat) : Prop where
  below : Below w0.heap.size w0 w
  g0 : w0.heap.size ≤ g
  outer : w.ownsRow w0.heap.size 29 1 (.slice (some ⟨g, 0, none⟩) N N) N ((List.range N).map V)
  rows : ∀ v, v < N → OwnN w w0.heap.size (V v) (R v)
  apart : ∀ u v, u < N → v < N → u ≠ v → ∀ b, (V u).ownBlock = some b → (V v).ownBlock ≠ some b
  offG : ∀ v, v < N → (V v).ownBlock ≠ some g
/-- Rows V that hold R, in a row at g, to be read. -/
structure RowsAt (w : World) (g N : Nat) (V : Nat → Value) (R : Nat → List Nat) : Prop where
  gl : g < w.heap.size
  cell : ∀ v, v < N → w.cell? ⟨g, v, none⟩ = some (V v)
  rows : ∀ v, v < N → IntsAt w (V v) (castI (R v))
/-- The numbers x of N nodes, in a row of the call's own at g. -/
structure XsAt (w0 w : World) (g N : Nat) (x : Nat → Nat) : Prop where
  below : Below w0.heap.size w0 w
  g0 : w0.heap.size ≤ g
  row : w.ownsRow w0.heap.size 3 1 (.slice (some ⟨g, 0, none⟩) N N) N ((List.range N).map fun v => encNat (x v))

section
variable {w0 w w' : World} {g N : Nat} {V : Nat → Value} {R : Nat → List Nat} {x : Nat → Nat}
theorem RwsAt.gl (h : RwsAt w0 w g N V R) : g < w.heap.size := (h.outer.lt g rfl).2
theorem RwsAt.quiet (h : RwsAt w0 w g N V R) (o : Below w.heap.size w w') : RwsAt w0 w' g N V R := by
  have keep : ∀ {v : Value} {e : TypeId} {n k : Nat} {xs : List Value}, w.ownsRow w0.heap.size e k v n xs → w'.ownsRow w0.heap.size e k v n xs := fun hr => ownsRow_out (S := fun _ => False) hr (Out.ofBelow o) (fun _ _ e => e)
  exact ⟨h.below.trans (o.mono h.below.size), h.g0, keep h.outer, fun v hv => keep (h.rows v hv), h.apart, h.offG⟩
/-- The row of u is another one, longer by t; it lies where it lay or in a new block. -/
theorem RwsAt.add (h : RwsAt w0 w g N V R) {u t : Nat} (hu : u < N) {v' : Value} {w1 : World}
    (hown : w1.ownsRow w0.heap.size 3 1 v' ((R u).length + 1) ((R u).map encNat ++ [encNat t])) (hgrow : w.grownBy w1 (V u).ownBlock) (hfr : ∀ b, v'.ownBlock = some b → (V u).ownBlock = some b ∨ w.heap.size ≤ b) :
    RwsAt w0 (w1.setCell ⟨g, u, none⟩ v') g N (fun v => if v = u then v' else V v) (fun v => if v = u then R u ++ [t] else R v) := by
  have hs := h.below.size
  have hrow := (h.rows u hu).lt
  have o1 : Out (fun b => (V u).ownBlock = some b) w w1 := (Out.refl _ w).grown hgrow (fun _ _ e => e)
  have o2 : Out (fun b => (V u).ownBlock = some b ∨ b = g) w (w1.setCell ⟨g, u, none⟩ v') := Out.setCell (S := fun b => (V u).ownBlock = some b ∨ b = g) (o1.mono (fun _ _ e => Or.inl e)) (p := ⟨g, u, none⟩) (fun _ => Or.inr rfl) v'
  have out1 := ownsRow_out h.outer o1 (fun b hb e => h.offG u hu (by simp only [Value.ownBlock, Option.some.injEq] at hb; subst hb; exact e))
  have offg' : v'.ownBlock ≠ some g := fun e => by
    rcases hfr g e with e | e
    · exact h.offG u hu e
    · have := h.gl; omega
  have hown2 : (w1.setCell ⟨g, u, none⟩ v').ownsRow w0.heap.size 3 1 v' ((R u).length + 1) ((R u).map encNat ++ [encNat t]) := ownsRow_setCell_other hown offg' _
  refine ⟨h.below.trans (o2.below hs (fun i _ e => ?_)), h.g0, ?_, fun v hv => ?_, fun a b ha hb hab c hc => ?_, fun v hv => ?_⟩
  · rcases e with e | e
    · exact (hrow i e).1
    · subst e; exact h.g0
  · rw [map_set]
    exact (out1.stored u v').1
  · by_cases e : v = u
    · subst e
      simp only [if_true]
      unfold OwnN
      rw [List.length_append, List.map_append]
      exact hown2
    · simp only [if_neg e]
      exact ownsRow_out (h.rows v hv) o2 (fun b hb e2 => by
        rcases e2 with e2 | e2
        · exact h.apart v u hv hu e b hb e2
        · subst e2; exact h.offG v hv hb)
  · by_cases e1 : a = u
    · subst e1
      have e2 : ¬ b = a := fun e => hab e.symm
      simp only [if_true] at hc
      simp only [if_neg e2]
      rcases hfr c hc with e | e
      · exact h.apart a b ha hb hab c e
      · intro k
        have := ((h.rows b hb).lt c k).2
        omega
    · simp only [if_neg e1] at hc
      by_cases e2 : b = u
      · subst e2
        simp only [if_true]
        intro k
        rcases hfr c k with e | e
        · exact h.apart a b ha hb hab c hc e
        · have := ((h.rows a ha).lt c hc).2
          omega
      · simp only [if_neg e2]
        exact h.apart a b ha hb hab c hc
  · by_cases e : v = u
    · subst e; simp only [if_true]; exact offg'
    · simp only [if_neg e]; exact h.offG v hv
theorem RwsAt.cellG (h : RwsAt w0 w g N V R) {v : Nat} (hv : v < N) : w.cell? ⟨g, v, none⟩ = some (V v) := by
  rw [h.outer.cellAt v (by simpa using hv)]
  simp [hv]
theorem RwsAt.frG (h : RwsAt w0 w g N V R) (v : Nat) : w.frozen? ⟨g, v, none⟩ = false := h.outer.frozenAt v
theorem RwsAt.read (h : RwsAt w0 w g N V R) : RowsAt w g N V R := ⟨h.gl, fun _ hv => h.cellG hv, fun v hv => (h.rows v hv).toI.ints⟩
theorem RowsAt.below (h : RowsAt w g N V R) (o : Below w.heap.size w w') : RowsAt w' g N V R :=
  ⟨Nat.lt_of_lt_of_le h.gl o.size, fun v hv => (o.cell (p := ⟨g, v, none⟩) h.gl).trans (h.cell v hv), fun v hv => (h.rows v hv).below o⟩
theorem rws_start (hb : Below w0.heap.size w0 w) (hg : w0.heap.size ≤ g) (h1 : w.heap[g]? = some (.cells (madeCells #[.slice none 0 0] N) 29 (0, 0))) (hN : N ≤ 1000000) :
    RwsAt w0 w g N (fun _ => .slice none 0 0) (fun _ => []) := by
  refine ⟨hb, hg, ⟨by simp, Or.inr ⟨g, N, _, rfl, hg, h1, Nat.le_refl _, by unfold maxLen; omega, by simp [size_madeCells], ?_⟩⟩, fun v hv => World.ownsRow_nil _ _ _ _, fun u v _ _ _ b hb2 => by simp [Value.ownBlock] at hb2, fun v _ => by simp [Value.ownBlock]⟩
  rw [toList_madeCells_one, made_map, List.take_of_length_le (by simp)]
/-- The append onto the row of u, as a step. -/
theorem step_rws {P : Program} {ops : Array Oper} {o : Oper} {a : Act} {W : World} {K : Act → World → Prop} {Q : Exit → Act → World → Prop} {F : Prop}
    (hg : o.guard = none) (s y : Operand) (tt : TypeId) (hop : o.op = Op.call { callee := Callee.builtin Builtin.append, args := #[s, y], argTypes := #[tt, tt] })
    (i : TypeInfo) (bytes : Nat) (h1 : P.underlying tt = some (.slice 3)) (h2 : P.info? 3 = some i) (h3 : i.zero = some (.int .i64 0)) (h4 : i.size = 1) (h5 : i.bytes = bytes)
    (h : RwsAt w0 w g N V R) (hb : RowKit.Below w.heap.size w W) (u t : Nat) (hu : u < N) (hs : a.eval s = V u)
    (ad : Addr) (cp : Nat) (hx : a.eval y = .slice (some ad) 1 cp) (hc : ∀ j z, [encNat t][j]? = some z → W.cell? (ad.add j) = some z)
    (b1 : (R u).length + 1 ≤ maxLen) (b2 : ((R u).length + 1) * bytes ≤ 140737488355328)
    (hK : ∀ gv cv w1, RwsAt w0 (w1.setCell ⟨g, u, none⟩ (.slice (some ⟨gv, 0, none⟩) ((R u).length + 1) cv)) g N (fun v => if v = u then .slice (some ⟨gv, 0, none⟩) ((R u).length + 1) cv else V v) (fun v => if v = u then R u ++ [t] else R v) →
      Out (fun b => (V u).ownBlock = some b) W w1 → RwsAt w0 W g N V R → (∀ b, (V u).ownBlock = some b → b < w.heap.size) → K (a.put o.dst (.slice (some ⟨gv, 0, none⟩) ((R u).length + 1) cv)) w1) :
    if Region.wanted o (yielded ops a.tmps) = true then Oper.wp P o a W K Q else F := by
  have H := h.quiet hb
  have hbs : w0.heap.size ≤ W.heap.size := Nat.le_trans h.below.size hb.size
  refine step_append_fresh hg s y tt hop w0.heap.size 3 i (.int .i64 0) 1 bytes h1 h2 h3 h4 h5 rfl (by decide) (V u) (R u).length ((R u).map encNat) hs (H.rows u hu) ad 1 cp [encNat t] hx rfl hc
    (by intro z hz; simp [encNat] at hz; subst hz; rfl) b1 b2 hbs fun v' w1 hown hgrow hfr => ?_
  obtain ⟨gv, cv, rfl, _, _, _⟩ := ownsRow_form hown (by omega)
  exact hK gv cv w1 (H.add hu hown hgrow hfr) ((Out.refl _ W).grown hgrow (fun _ _ e => e)) H (fun b hb2 => ((h.rows u hu).lt b hb2).2)

theorem XsAt.gl (h : XsAt w0 w g N x) : g < w.heap.size := (h.row.lt g rfl).2
theorem XsAt.quiet (h : XsAt w0 w g N x) (o : Below w.heap.size w w') : XsAt w0 w' g N x :=
  ⟨h.below.trans (o.mono h.below.size), h.g0, ownsRow_out (S := fun _ => False) h.row (Out.ofBelow o) (fun _ _ e => e)⟩
theorem XsAt.set (h : XsAt w0 w g N x) (t d : Nat) : XsAt w0 (w.setCell ⟨g, t, none⟩ (encNat d)) g N (fun v => if v = t then d else x v) := by
  have o2 : Out (fun b => b = g) w (w.setCell ⟨g, t, none⟩ (encNat d)) := Out.setCell (S := fun b => b = g) (Out.refl _ w) (p := ⟨g, t, none⟩) (fun _ => rfl) _
  refine ⟨h.below.trans (o2.below h.below.size (fun i _ e => by subst e; exact h.g0)), h.g0, ?_⟩
  have e : ((List.range N).map fun v => encNat (if v = t then d else x v)) = ((List.range N).map fun v => encNat (x v)).set t (encNat d) := by
    rw [← map_set]
    exact List.map_congr_left (fun v _ => by by_cases e : v = t <;> simp [e])
  rw [e]
  exact (h.row.stored t _).1
theorem XsAt.cell (h : XsAt w0 w g N x) {v : Nat} (hv : v < N) : w.cell? ⟨g, v, none⟩ = some (.int .i64 (x v : Int)) := by
  rw [h.row.cellAt v (by simpa using hv)]
  simp [hv, encNat]
theorem XsAt.fr (h : XsAt w0 w g N x) (v : Nat) : w.frozen? ⟨g, v, none⟩ = false := h.row.frozenAt v
theorem XsAt.own (h : XsAt w0 w g N x) : OwnN w w0.heap.size (.slice (some ⟨g, 0, none⟩) N N) ((List.range N).map x) := by
  have := h.row
  unfold OwnN
  rw [List.length_map, List.length_range, List.map_map]
  exact this
theorem xs_start (hb : Below w0.heap.size w0 w) (hg : w0.heap.size ≤ g) (h1 : w.heap[g]? = some (.cells (madeCells #[.int .i64 0] N) 3 (0, 0))) (hN : N ≤ 1000000) : XsAt w0 w g N (fun _ => 0) := by
  refine ⟨hb, hg, ⟨by simp, Or.inr ⟨g, N, _, rfl, hg, h1, Nat.le_refl _, by unfold maxLen; omega, by simp [size_madeCells], ?_⟩⟩⟩
  rw [toList_madeCells_one, made_map, List.take_of_length_le (by simp)]
  rfl
end
theorem mkRowsN (N : Nat) (hN : N ≤ 1000000) (w : World) : (Instr.makeSlice 68 (.int .i64 (N : Int)) (.int .i64 (N : Int))).run Try.prog w = .ok (.slice (some ⟨w.heap.size, 0, none⟩) N N) (w.alloc (.cells (madeCells #[.slice none 0 0] N) 29)) := by
  obtain ⟨i, hi, h0, h1, h2⟩ := info_parts infoR
  have h := run_make (P := Try.prog) w 68 29 i _ Try.underlying68 hi h0 .i64 .i64 N N (by omega) (by omega) (by rw [h2]; omega) (by omega)
  rw [h1] at h
  simpa [Value.cells] using h
theorem IntsAt.nth {w : World} {v : Value} {x : List Int} (h : IntsAt w v x) {i : Nat} (hi : i < x.length) : ∃ b o cap, v = .slice (some ⟨b, o, none⟩) x.length cap ∧ b < w.heap.size ∧ w.cell? ⟨b, o + i, none⟩ = some (.int .i64 x[i]) := by
  obtain ⟨A, cap, rfl, _, hA⟩ := h
  obtain ⟨b, o, rfl, hb, hc⟩ := hA (by omega)
  exact ⟨b, o, cap, rfl, hb, hc i hi⟩
theorem IntsAt.form {w : World} {v : Value} {x : List Int} (h : IntsAt w v x) : ∃ ao cap, v = .slice ao x.length cap := by
  obtain ⟨A, cap, rfl, _, _⟩ := h
  exact ⟨_, _, rfl⟩
theorem castI_get (l : List Nat) (i : Nat) (h : i < l.length) : (castI l)[i]'(by simpa [castI] using h) = (l[i] : Int) := by simp [castI]
theorem castI_len (l : List Nat) : (castI l).length = l.length := by simp [castI]

/-- The greatest less the least. -/
def spanI (x : List Int) : Int := if x.length = 0 then 0 else Lib.maxOf x - Lib.minOf x
theorem fold_max (l : List Int) : ∀ a : Int, a ≤ l.foldl max a ∧ (∀ y ∈ l, y ≤ l.foldl max a) ∧ (l.foldl max a = a ∨ l.foldl max a ∈ l) := by
  induction l with
  | nil => intro a; simp
  | cons b l ih =>
    intro a
    obtain ⟨h1, h2, h3⟩ := ih (max a b)
    simp only [List.foldl_cons, List.mem_cons, forall_eq_or_imp]
    refine ⟨by omega, ⟨by omega, h2⟩, ?_⟩
    rcases h3 with h3 | h3
    · rw [h3]
      by_cases e : a ≤ b
      · right; left; omega
      · left; omega
    · exact Or.inr (Or.inr h3)
theorem fold_min (l : List Int) : ∀ a : Int, l.foldl min a ≤ a ∧ (∀ y ∈ l, l.foldl min a ≤ y) ∧ (l.foldl min a = a ∨ l.foldl min a ∈ l) := by
  induction l with
  | nil => intro a; simp
  | cons b l ih =>
    intro a
    obtain ⟨h1, h2, h3⟩ := ih (min a b)
    simp only [List.foldl_cons, List.mem_cons, forall_eq_or_imp]
    refine ⟨by omega, ⟨by omega, h2⟩, ?_⟩
    rcases h3 with h3 | h3
    · rw [h3]
      by_cases e : a ≤ b
      · left; omega
      · right; left; omega
    · exact Or.inr (Or.inr h3)
theorem head_mem {x : List Int} (h : 0 < x.length) : x.headD 0 ∈ x := by
  cases x with
  | nil => simp at h
  | cons a l => simp
theorem maxOf_mem {x : List Int} (h : 0 < x.length) : Lib.maxOf x ∈ x := by
  rcases (fold_max x (x.headD 0)).2.2 with e | e
  · unfold Lib.maxOf; rw [e]; exact head_mem h
  · exact e
theorem minOf_mem {x : List Int} (h : 0 < x.length) : Lib.minOf x ∈ x := by
  rcases (fold_min x (x.headD 0)).2.2 with e | e
  · unfold Lib.minOf; rw [e]; exact head_mem h
  · exact e
theorem maxOf_ge {x : List Int} {y : Int} (h : y ∈ x) : y ≤ Lib.maxOf x := (fold_max x (x.headD 0)).2.1 y h
theorem minOf_le {x : List Int} {y : Int} (h : y ∈ x) : Lib.minOf x ≤ y := (fold_min x (x.headD 0)).2.1 y h
end Go.Proofs.Ytkloaekmjnbacaa
