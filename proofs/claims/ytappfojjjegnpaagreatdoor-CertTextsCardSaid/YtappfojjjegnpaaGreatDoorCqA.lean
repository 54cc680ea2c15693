/-
  A row of arcs, a row of ints in memory; whether a graph may be. Conditions: none.
  links: of each node where its arcs lead, and how many lead to it. Conditions: the graph may be.
-/
import Derived.Test.YtappfojjjegnpaaGreatDoorCqH
import Derived.Test.YtappfojjjegnpaaGreatDoorCqM
import Derived.Shelf.Abstract
import Derived.Test.YtappfojjjegnpaaGreatDoorAppend
import Derived.Laws.MakeOwn
import Derived.Laws.OwnMore
import Derived.BigRegion
import Derived.Deep.RegionLaw
namespace Go.Proofs.YtappfojjjegnpaaGreatDoor
open Go.RowKit Go.Proofs.YtappfojjjegnpaaGreatDoor.DagM

/-- The arcs L in memory. -/
def ArcsAt (w : World) (v : Value) (L : List Arc) : Prop :=
  ∃ A cap, v = .slice A L.length cap ∧ L.length ≤ cap ∧ (0 < L.length → ∃ b o, A = some ⟨b, o, none⟩ ∧ b < w.heap.size ∧ ∀ k (h : k < L.length),
    w.cell? ⟨b, o + k * 3, none⟩ = some (.int .i64 L[k].1) ∧ w.cell? ⟨b, o + k * 3 + 1, none⟩ = some (.int .i64 L[k].2.1) ∧ w.cell? ⟨b, o + k * 3 + 2, none⟩ = some (.int .i64 L[k].2.2))
/-- The numbers x in memory. -/
def IntsAt (w : World) (v : Value) (x : List Int) : Prop :=
  ∃ A cap, v = .slice A x.length cap ∧ x.length ≤ cap ∧ (0 < x.length → ∃ b o, A = some ⟨b, o, none⟩ ∧ b < w.heap.size ∧ ∀ k (h : k < x.length), w.cell? ⟨b, o + k, none⟩ = some (.int .i64 x[k]))
theorem ArcsAt.below {w w' : World} {v : Value} {L : List Arc} (h : ArcsAt w v L) (hb : Below w.heap.size w w') : ArcsAt w' v L := by
  obtain ⟨A, cap, rfl, hc, hA⟩ := h
  refine ⟨A, cap, rfl, hc, fun h0 => ?_⟩
  obtain ⟨b, o, e, hlt, h⟩ := hA h0
  refine ⟨b, o, e, Nat.lt_of_lt_of_le hlt hb.size, fun k hk => ?_⟩
  have := h k hk
  rw [hb.cell (p := ⟨b, o + k * 3, none⟩) hlt, hb.cell (p := ⟨b, o + k * 3 + 1, none⟩) hlt, hb.cell (p := ⟨b, o + k * 3 + 2, none⟩) hlt]
  exact this
theorem IntsAt.below {w w' : World} {v : Value} {L : List Int} (h : IntsAt w v L) (hb : Below w.heap.size w w') : IntsAt w' v L := by
  obtain ⟨A, cap, rfl, hc, hA⟩ := h
  refine ⟨A, cap, rfl, hc, fun h0 => ?_⟩
  obtain ⟨b, o, e, hlt, h⟩ := hA h0
  refine ⟨b, o, e, Nat.lt_of_lt_of_le hlt hb.size, fun k hk => ?_⟩
  rw [hb.cell (p := ⟨b, o + k, none⟩) hlt]
  exact h k hk

theorem belowN {B : Nat} {a w : World} (h : Below B a w) (n : Nat) : Below B a (w.drewN n) := h.trans ⟨rfl, rfl, rfl, Nat.le_refl _, fun _ _ => rfl⟩
theorem isNode (n v : Int) (c : Nat) (w : World) (h : w.cell? ⟨c, 0, none⟩ = some (.int .i64 n)) :
    Calls Tryz.prog 80 #[.int .i64 v, .pointer (some ⟨c, 0, none⟩)] w fun e w' => e = .returned (.bool (decide (0 ≤ v) && decide (v < n))) ∧ w = w' := by
  go_enter Tryz.func80, Tryz.ntmps80
  go_wp2
  all_goals
    go_ret
    simp_all
  all_goals omega

/-- What mayBe's closure looks at: a function, and the number of nodes. -/
structure ClosAt (n : Int) (w : World) (c d : Nat) : Prop where
  c0 : w.cell? ⟨c, 0, none⟩ = some (.func (.func 80) #[] #[.pointer (some ⟨d, 0, none⟩)])
  d0 : w.cell? ⟨d, 0, none⟩ = some (.int .i64 n)
  cl : c < w.heap.size
  dl : d < w.heap.size
theorem ClosAt.below {n : Int} {w w' : World} {c d : Nat} (h : ClosAt n w c d) (hb : Below w.heap.size w w') : ClosAt n w' c d :=
  ⟨(hb.cell (p := ⟨c, 0, none⟩) h.cl).trans h.c0, (hb.cell (p := ⟨d, 0, none⟩) h.dl).trans h.d0, Nat.lt_of_lt_of_le h.cl hb.size, Nat.lt_of_lt_of_le h.dl hb.size⟩

set_option maxHeartbeats 1000000 in
theorem bad (n : Int) (a : Arc) (c d : Nat) (w : World) (h : ClosAt n w c d) :
    Calls Tryz.prog 82 #[.agg #[.int .i64 a.1, .int .i64 a.2.1, .int .i64 a.2.2], .pointer (some ⟨c, 0, none⟩)] w fun e w' => e = .returned (.bool (badA n a)) ∧ Below w.heap.size w w' := by
  obtain ⟨x, y, z⟩ := a
  have h0 := h.c0
  have h1 := h.d0
  have h2 := h.cl
  have h3 := h.dl
  have eg := enters_of Tryz.func80 (by kernel_rfl) rfl
  clear h
  go_enter Tryz.func82, Tryz.ntmps82
  go_wp2_with (first
    | (go_at_fn 80; refine (isNode n _ d _ (by go_simp)).mono ?_; rintro e w1 ⟨rfl, rfl⟩)
    | (go_at_call 80; refine (isNode n _ d _ (by go_simp)).mono ?_; rintro e w1 ⟨rfl, rfl⟩))
  all_goals
    go_ret
    refine ⟨ret_bool ?_, (Below.refl _ _).alloc (Nat.le_refl _) _⟩
    rw [Bool.eq_iff_iff]
    simp [badA]
    omega
end Go.Proofs.YtappfojjjegnpaaGreatDoor

namespace Go.Proofs.YtappfojjjegnpaaGreatDoor
open Go.RowKit Go.Proofs.YtappfojjjegnpaaGreatDoor.DagM

def encInt (x : Int) : Value := .int .i64 x
def encNat (x : Nat) : Value := .int .i64 (x : Int)
/-- The numbers l in a row of the call's own, from B on. -/
def OwnN (w : World) (B : Nat) (v : Value) (l : List Nat) : Prop := w.ownsRow B 3 1 v l.length (l.map encNat)

/-- Where links stands: the rows V, the numbers f, at g and m; R: what the rows hold. -/
structure LkAt (w0 w : World) (g m N : Nat) (V : Nat → Value) (f : Nat → Nat) (R : Nat → List Nat) : Prop where
  below : Below w0.heap.size w0 w
  g0 : w0.heap.size ≤ g
  m0 : w0.heap.size ≤ m
  ne : g ≠ m
  outer : w.ownsRow w0.heap.size 22 1 (.slice (some ⟨g, 0, none⟩) N N) N ((List.range N).map V)
  miss : w.ownsRow w0.heap.size 3 1 (.slice (some ⟨m, 0, none⟩) N N) N ((List.range N).map fun v => encNat (f v))
  rows : ∀ v, v < N → OwnN w w0.heap.size (V v) (R v)
  apart : ∀ u v, u < N → v < N → u ≠ v → ∀ b, (V u).ownBlock = some b → (V v).ownBlock ≠ some b
  offG : ∀ v, v < N → (V v).ownBlock ≠ some g
  offM : ∀ v, v < N → (V v).ownBlock ≠ some m

theorem outs_snoc (K : EndL) (e : Nat × Nat) (v : Nat) : outs (K ++ [e]) v = if e.1 = v then outs K v ++ [e.2] else outs K v := by
  unfold outs
  rw [List.filter_append, List.map_append]
  by_cases h : e.1 = v <;> simp [h]
theorem miss_snocE (K : EndL) (e : Nat × Nat) (v : Nat) : miss (K ++ [e]) [] v = if e.2 = v then miss K [] v + 1 else miss K [] v := by
  unfold miss
  rw [List.countP_append]
  by_cases h : e.2 = v <;> simp [h]
theorem map_set {α : Type} (N : Nat) (V : Nat → α) (u : Nat) (x : α) : (List.range N).map (fun v => if v = u then x else V v) = ((List.range N).map V).set u x := by
  apply List.ext_getElem?
  intro i
  rw [List.getElem?_set]
  by_cases h : i < N
  · by_cases e : u = i
    · subst e; simp [h]
    · simp [h, e, Ne.symm e]
  · by_cases e : u = i
    · subst e; simp [h]
    · simp [h, e]

section
variable {w0 w w' : World} {g m N : Nat} {V : Nat → Value} {f : Nat → Nat} {R : Nat → List Nat}
theorem LkAt.gl (h : LkAt w0 w g m N V f R) : g < w.heap.size := (h.outer.lt g rfl).2
theorem LkAt.ml (h : LkAt w0 w g m N V f R) : m < w.heap.size := (h.miss.lt m rfl).2
theorem LkAt.quiet (h : LkAt w0 w g m N V f R) (o : Below w.heap.size w w') : LkAt w0 w' g m N V f R := by
  have keep : ∀ {v : Value} {e : TypeId} {n k : Nat} {xs : List Value}, w.ownsRow w0.heap.size e k v n xs → w'.ownsRow w0.heap.size e k v n xs := fun hr => ownsRow_out (S := fun _ => False) hr (Out.ofBelow o) (fun _ _ e => e)
  exact ⟨h.below.trans (o.mono h.below.size), h.g0, h.m0, h.ne, keep h.outer, keep h.miss, fun v hv => keep (h.rows v hv), h.apart, h.offG, h.offM⟩
/-- The row of u is another one, longer by t; it lies where it lay or in a new block. -/
theorem LkAt.add (h : LkAt w0 w g m N V f R) {u t : Nat} (hu : u < N) {v' : Value} {w1 : World}
    (hown : w1.ownsRow w0.heap.size 3 1 v' ((R u).length + 1) ((R u).map encNat ++ [encNat t])) (hgrow : w.grownBy w1 (V u).ownBlock) (hfr : ∀ b, v'.ownBlock = some b → (V u).ownBlock = some b ∨ w.heap.size ≤ b) :
    LkAt w0 (w1.setCell ⟨g, u, none⟩ v') g m N (fun v => if v = u then v' else V v) f (fun v => if v = u then R u ++ [t] else R v) := by
  have hs := h.below.size
  have hrow := (h.rows u hu).lt
  have o1 : Out (fun b => (V u).ownBlock = some b) w w1 := (Out.refl _ w).grown hgrow (fun _ _ e => e)
  have o2 : Out (fun b => (V u).ownBlock = some b ∨ b = g) w (w1.setCell ⟨g, u, none⟩ v') := Out.setCell (S := fun b => (V u).ownBlock = some b ∨ b = g) (o1.mono (fun _ _ e => Or.inl e)) (p := ⟨g, u, none⟩) (fun _ => Or.inr rfl) v'
  have out1 := ownsRow_out h.outer o1 (fun b hb e => h.offG u hu (by simp only [Value.ownBlock, Option.some.injEq] at hb; subst hb; exact e))
  have hmg : (Value.slice (some ⟨m, 0, none⟩) N N).ownBlock ≠ some g := fun e => h.ne (by simp only [Value.ownBlock, Option.some.injEq] at e; exact e.symm)
  have offg' : v'.ownBlock ≠ some g := fun e => by
    rcases hfr g e with e | e
    · exact h.offG u hu e
    · have := h.gl; omega
  have hown2 : (w1.setCell ⟨g, u, none⟩ v').ownsRow w0.heap.size 3 1 v' ((R u).length + 1) ((R u).map encNat ++ [encNat t]) := ownsRow_setCell_other hown offg' _
  refine ⟨h.below.trans (o2.below hs (fun i _ e => ?_)), h.g0, h.m0, h.ne, ?_, ?_, fun v hv => ?_, fun a b ha hb hab c hc => ?_, fun v hv => ?_, fun v hv => ?_⟩
  · rcases e with e | e
    · exact (hrow i e).1
    · subst e; exact h.g0
  · rw [map_set]
    exact (out1.stored u v').1
  · exact ownsRow_out h.miss o2 (fun b hb e => by
      simp only [Value.ownBlock, Option.some.injEq] at hb
      subst hb
      rcases e with e | e
      · exact h.offM u hu e
      · exact h.ne e.symm)
  · by_cases e : v = u
    · subst e
      simp only [if_true]
      unfold OwnN
      rw [List.length_append, List.map_append]
      exact hown2
    · simp only [if_neg e]
      exact ownsRow_out (h.rows v hv) o2 (fun b hb e2 => by
        rcases e2 with e2 | e2
        · exact h.apart v u hv hu e b hb e2
        · subst e2; exact h.offG v hv hb)
  · by_cases e1 : a = u
    · subst e1
      have e2 : ¬ b = a := fun e => hab e.symm
      simp only [if_true] at hc
      simp only [if_neg e2]
      rcases hfr c hc with e | e
      · exact h.apart a b ha hb hab c e
      · intro k
        have := ((h.rows b hb).lt c k).2
        omega
    · simp only [if_neg e1] at hc
      by_cases e2 : b = u
      · subst e2
        simp only [if_true]
        intro k
        rcases hfr c k with e | e
        · exact h.apart a b ha hb hab c hc e
        · have := ((h.rows a ha).lt c hc).2
          omega
      · simp only [if_neg e2]
        exact h.apart a b ha hb hab c hc
  · by_cases e : v = u
    · subst e; simp only [if_true]; exact offg'
    · simp only [if_neg e]; exact h.offG v hv
  · by_cases e : v = u
    · subst e
      simp only [if_true]
      intro k
      rcases hfr m k with e | e
      · exact h.offM v hv e
      · have := h.ml; omega
    · simp only [if_neg e]; exact h.offM v hv
/-- One more leads to t. -/
theorem LkAt.inc (h : LkAt w0 w g m N V f R) (t d : Nat) : LkAt w0 (w.setCell ⟨m, t, none⟩ (encNat d)) g m N V (fun v => if v = t then d else f v) R := by
  have hs := h.below.size
  have o2 : Out (fun b => b = m) w (w.setCell ⟨m, t, none⟩ (encNat d)) := Out.setCell (S := fun b => b = m) (Out.refl _ w) (p := ⟨m, t, none⟩) (fun _ => rfl) _
  refine ⟨h.below.trans (o2.below hs (fun i _ e => by subst e; exact h.m0)), h.g0, h.m0, h.ne, ?_, ?_, fun v hv => ?_, h.apart, h.offG, h.offM⟩
  · exact ownsRow_out h.outer o2 (fun b hb e => by
      simp only [Value.ownBlock, Option.some.injEq] at hb
      subst hb
      exact h.ne e)
  · have e : ((List.range N).map fun v => encNat (if v = t then d else f v)) = ((List.range N).map fun v => encNat (f v)).set t (encNat d) := by
      rw [← map_set]
      exact List.map_congr_left (fun v _ => by by_cases e : v = t <;> simp [e])
    rw [e]
    exact (h.miss.stored t _).1
  · exact ownsRow_out (h.rows v hv) o2 (fun b hb e => by subst e; exact h.offM v hv hb)
theorem LkAt.cellG (h : LkAt w0 w g m N V f R) {v : Nat} (hv : v < N) : w.cell? ⟨g, v, none⟩ = some (V v) := by
  rw [h.outer.cellAt v (by simpa using hv)]
  simp [hv]
theorem LkAt.cellM (h : LkAt w0 w g m N V f R) {v : Nat} (hv : v < N) : w.cell? ⟨m, v, none⟩ = some (.int .i64 (f v : Int)) := by
  rw [h.miss.cellAt v (by simpa using hv)]
  simp [hv, encNat]
theorem LkAt.frG (h : LkAt w0 w g m N V f R) (v : Nat) : w.frozen? ⟨g, v, none⟩ = false := h.outer.frozenAt v
theorem LkAt.frM (h : LkAt w0 w g m N V f R) (v : Nat) : w.frozen? ⟨m, v, none⟩ = false := h.miss.frozenAt v
end

/-- The append onto the row of u, as a step. -/
theorem step_row {P : Program} {ops : Array Oper} {o : Oper} {a : Act} {w0 w W : World} {K : Act → World → Prop} {Q : Exit → Act → World → Prop} {F : Prop}
    (hg : o.guard = none) (s x : Operand) (tt : TypeId) (hop : o.op = Op.call { callee := Callee.builtin Builtin.append, args := #[s, x], argTypes := #[tt, tt] })
    (i : TypeInfo) (bytes : Nat) (h1 : P.underlying tt = some (.slice 3)) (h2 : P.info? 3 = some i) (h3 : i.zero = some (.int .i64 0)) (h4 : i.size = 1) (h5 : i.bytes = bytes)
    {g m N : Nat} {V : Nat → Value} {f : Nat → Nat} {R : Nat → List Nat} (h : LkAt w0 w g m N V f R) (hb : RowKit.Below w.heap.size w W) (u t : Nat) (hu : u < N) (hs : a.eval s = V u)
    (ad : Addr) (cp : Nat) (hx : a.eval x = .slice (some ad) 1 cp) (hc : ∀ j z, [encNat t][j]? = some z → W.cell? (ad.add j) = some z)
    (b1 : (R u).length + 1 ≤ maxLen) (b2 : ((R u).length + 1) * bytes ≤ 140737488355328)
    (hK : ∀ gv cv w1, LkAt w0 (w1.setCell ⟨g, u, none⟩ (.slice (some ⟨gv, 0, none⟩) ((R u).length + 1) cv)) g m N (fun v => if v = u then .slice (some ⟨gv, 0, none⟩) ((R u).length + 1) cv else V v) f (fun v => if v = u then R u ++ [t] else R v) →
      Out (fun b => (V u).ownBlock = some b) W w1 → LkAt w0 W g m N V f R → (∀ b, (V u).ownBlock = some b → b < w.heap.size) → K (a.put o.dst (.slice (some ⟨gv, 0, none⟩) ((R u).length + 1) cv)) w1) :
    if Region.wanted o (yielded ops a.tmps) = true then Oper.wp P o a W K Q else F := by
  have H := h.quiet hb
  have hbs : w0.heap.size ≤ W.heap.size := Nat.le_trans h.below.size hb.size
  refine step_append_fresh hg s x tt hop w0.heap.size 3 i (.int .i64 0) 1 bytes h1 h2 h3 h4 h5 rfl (by decide) (V u) (R u).length ((R u).map encNat) hs (H.rows u hu) ad 1 cp [encNat t] hx rfl hc
    (by intro z hz; simp [encNat] at hz; subst hz; rfl) b1 b2 hbs fun v' w1 hown hgrow hfr => ?_
  obtain ⟨gv, cv, rfl, _, _, _⟩ := ownsRow_form hown (by omega)
  exact hK gv cv w1 (H.add hu hown hgrow hfr) ((Out.refl _ W).grown hgrow (fun _ _ e => e)) H (fun b hb2 => ((h.rows u hu).lt b hb2).2)

theorem infoI : (Tryz.prog.info? 3).map (fun i => (i.zero, i.size, i.bytes)) = some (some (.int .i64 0), 1, 8) := by kernel_rfl
theorem infoR : (Tryz.prog.info? 22).map (fun i => (i.zero, i.size, i.bytes)) = some (some (.slice none 0 0), 1, 24) := by kernel_rfl
theorem mkInts (N : Nat) (hN : N ≤ 4096) (w : World) : (Instr.makeSlice 22 (.int .i64 (N : Int)) (.int .i64 (N : Int))).run Tryz.prog w = .ok (.slice (some ⟨w.heap.size, 0, none⟩) N N) (w.alloc (.cells (madeCells #[.int .i64 0] N) 3)) := by
  obtain ⟨i, hi, h0, h1, h2⟩ := info_parts infoI
  have h := run_make (P := Tryz.prog) w 22 3 i _ Tryz.underlying22 hi h0 .i64 .i64 N N (by omega) (by omega) (by rw [h2]; omega) (by omega)
  rw [h1] at h
  simpa [Value.cells] using h
theorem mkRows (N : Nat) (hN : N ≤ 4096) (w : World) : (Instr.makeSlice 120 (.int .i64 (N : Int)) (.int .i64 (N : Int))).run Tryz.prog w = .ok (.slice (some ⟨w.heap.size, 0, none⟩) N N) (w.alloc (.cells (madeCells #[.slice none 0 0] N) 22)) := by
  obtain ⟨i, hi, h0, h1, h2⟩ := info_parts infoR
  have h := run_make (P := Tryz.prog) w 120 22 i _ Tryz.underlying120 hi h0 .i64 .i64 N N (by omega) (by omega) (by rw [h2]; omega) (by omega)
  rw [h1] at h
  simpa [Value.cells] using h
theorem made_map {α : Type} (z : α) (N : Nat) : List.replicate N z = (List.range N).map fun _ => z := by
  apply List.ext_getElem?
  intro i
  by_cases h : i < N <;> simp [h]
end Go.Proofs.YtappfojjjegnpaaGreatDoor
