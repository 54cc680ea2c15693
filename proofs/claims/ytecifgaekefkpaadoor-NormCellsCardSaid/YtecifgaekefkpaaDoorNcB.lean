/-
  The ends of a shape's vertices in memory, side by side, each side's in a row of its own; one more put to a side. Conditions: at most 100000 ends on a side.
-/
import Derived.Test.YtecifgaekefkpaaDoorNcA
import Derived.Laws.MakeOwn
import Derived.Laws.OwnMore
import Derived.BigRegion
import Derived.Deep.RegionLaw
import Derived.Deep.DeepCutAuto
namespace Go.Proofs.YtecifgaekefkpaaDoor
open Go.RowKit Go.Proofs.YtecifgaekefkpaaDoor.LexM Go.Proofs.YtecifgaekefkpaaDoor.ParM Go.Proofs.YtecifgaekefkpaaDoor.GrM Go.Proofs.YtecifgaekefkpaaDoor.NmM

/-- An end: whose it is, where it stands. -/
def encN (x : Int × Int) : List Value := [.int .i64 x.1, .int .i64 x.2]
theorem encN_len (x : Int × Int) : (encN x).length = 2 := rfl
theorem encN_one (x : Int × Int) : ∀ u ∈ encN x, u.oneCell' = true := by
  intro u hu
  simp [encN] at hu
  rcases hu with rfl | rfl <;> rfl
def OwnT (w : World) (B : Nat) (v : Value) (l : List (Int × Int)) : Prop := w.ownsRow B 82 2 v l.length (l.flatMap encN)
theorem fn_set {α : Type} (N : Nat) (V : Nat → α) (u : Nat) (x : α) : (List.range N).map (fun v => if v = u then x else V v) = ((List.range N).map V).set u x := by
  apply List.ext_getElem?
  intro i
  rw [List.getElem?_set]
  by_cases h : i < N
  · by_cases e : u = i
    · subst e; simp [h]
    · simp [h, e, Ne.symm e]
  · by_cases e : u = i
    · subst e; simp [h]
    · simp [h, e]
/-- The ends: four rows a vertex. -/
structure EnAt (B : Nat) (w : World) (g N : Nat) (V : Nat → Value) (R : Nat → List (Int × Int)) : Prop where
  g0 : B ≤ g
  outer : w.ownsRow B 79 4 (.slice (some ⟨g, 0, none⟩) N N) N ((List.range (N * 4)).map V)
  rows : ∀ v, v < N * 4 → OwnT w B (V v) (R v)
  apart : ∀ u v, u < N * 4 → v < N * 4 → u ≠ v → ∀ b, (V u).ownBlock = some b → (V v).ownBlock ≠ some b
  offG : ∀ v, v < N * 4 → (V v).ownBlock ≠ some g
section
variable {B : Nat} {w w' : World} {g N : Nat} {V : Nat → Value} {R : Nat → List (Int × Int)}
theorem EnAt.gl (h : EnAt B w g N V R) : g < w.heap.size := (h.outer.lt g rfl).2
theorem EnAt.below {C : Nat} (h : EnAt B w g N V R) (o : Below C w w') (hC : w.heap.size ≤ C) : EnAt B w' g N V R := by
  have keep : ∀ {v : Value} {e : TypeId} {n k : Nat} {xs : List Value}, w.ownsRow B e k v n xs → w'.ownsRow B e k v n xs := fun hr => ownsRow_out (S := fun _ => False) hr (Out.ofBelow (o.mono hC)) (fun _ _ e => e)
  exact ⟨h.g0, keep h.outer, fun v hv => keep (h.rows v hv), h.apart, h.offG⟩
/-- A row is another one, longer by one; it lies where it lay or in a new block. -/
theorem EnAt.add (h : EnAt B w g N V R) {u : Nat} (hu : u < N * 4) {t : Int × Int} {v' : Value} {w1 : World}
    (hown : w1.ownsRow B 82 2 v' ((R u).length + 1) ((R u).flatMap encN ++ encN t)) (hgrow : w.grownBy w1 (V u).ownBlock) (hfr : ∀ b, v'.ownBlock = some b → (V u).ownBlock = some b ∨ w.heap.size ≤ b) :
    EnAt B (w1.setCell ⟨g, u, none⟩ v') g N (fun v => if v = u then v' else V v) (fun v => if v = u then R u ++ [t] else R v) := by
  have hrow := (h.rows u hu).lt
  have o1 : Out (fun b => (V u).ownBlock = some b) w w1 := (Out.refl _ w).grown hgrow (fun _ _ e => e)
  have o2 : Out (fun b => (V u).ownBlock = some b ∨ b = g) w (w1.setCell ⟨g, u, none⟩ v') := Out.setCell (S := fun b => (V u).ownBlock = some b ∨ b = g) (o1.mono (fun _ _ e => Or.inl e)) (p := ⟨g, u, none⟩) (fun _ => Or.inr rfl) v'
  have out1 := ownsRow_out h.outer o1 (fun b hb e => h.offG u hu (by simp only [Value.ownBlock, Option.some.injEq] at hb; subst hb; exact e))
  have offg' : v'.ownBlock ≠ some g := fun e => by
    rcases hfr g e with e | e
    · exact h.offG u hu e
    · have := h.gl; omega
  have hown2 : (w1.setCell ⟨g, u, none⟩ v').ownsRow B 82 2 v' ((R u).length + 1) ((R u).flatMap encN ++ encN t) := ownsRow_setCell_other hown offg' _
  refine ⟨h.g0, ?_, fun v hv => ?_, fun a b ha hb hab c hc => ?_, fun v hv => ?_⟩
  · rw [fn_set]
    exact (out1.stored u v').1
  · by_cases e : v = u
    · subst e
      simp only [if_true]
      unfold OwnT
      rw [List.length_append, List.flatMap_append]
      simpa using hown2
    · simp only [if_neg e]
      exact ownsRow_out (h.rows v hv) o2 (fun b hb e2 => by
        rcases e2 with e2 | e2
        · exact h.apart v u hv hu e b hb e2
        · subst e2; exact h.offG v hv hb)
  · by_cases e1 : a = u
    · subst e1
      have e2 : ¬ b = a := fun e => hab e.symm
      simp only [if_true] at hc
      simp only [if_neg e2]
      rcases hfr c hc with e | e
      · exact h.apart a b ha hb hab c e
      · intro k
        have := ((h.rows b hb).lt c k).2
        omega
    · simp only [if_neg e1] at hc
      by_cases e2 : b = u
      · subst e2
        simp only [if_true]
        intro k
        rcases hfr c k with e | e
        · exact h.apart a b ha hb hab c hc e
        · have := ((h.rows a ha).lt c hc).2
          omega
      · simp only [if_neg e2]
        exact h.apart a b ha hb hab c hc
  · by_cases e : v = u
    · subst e; simp only [if_true]; exact offg'
    · simp only [if_neg e]; exact h.offG v hv
theorem EnAt.cell (h : EnAt B w g N V R) {v : Nat} (hv : v < N * 4) : w.cell? ⟨g, v, none⟩ = some (V v) := by
  rw [h.outer.cellAt v (by simpa using hv)]
  simp [hv]
theorem EnAt.fr (h : EnAt B w g N V R) (v : Nat) : w.frozen? ⟨g, v, none⟩ = false := h.outer.frozenAt v
end
theorem info_n : ∃ i, Tryd.prog.info? 82 = some i ∧ i.zero = some (.agg #[.int .i64 0, .int .i64 0]) ∧ i.size = 2 ∧ i.bytes = 16 := by
  have h : (Tryd.prog.info? 82).map (fun i => (i.zero, i.size, i.bytes)) = some (some (.agg #[.int .i64 0, .int .i64 0]), 2, 16) := by kernel_rfl
  cases e : Tryd.prog.info? 82 with
  | none => rw [e] at h; cases h
  | some i =>
    rw [e] at h
    simp only [Option.map_some, Option.some.injEq, Prod.mk.injEq] at h
    exact ⟨i, rfl, h.1, h.2.1, h.2.2⟩
theorem newsT (w : World) (t : TypeId) (x : Int × Int) (b : Nat) (hb : w.heap.size = b) : ∀ j z, (encN x)[j]? = some z → ((w.alloc (.cells #[.int .i64 x.1, .int .i64 x.2] t)).drew).cell? ((⟨b, 0, none⟩ : Addr).add j) = some z := by
  intro j z hz
  have hj : j < 2 := by have := (List.getElem?_eq_some_iff.1 hz).1; exact this
  subst hb
  have hc : j = 0 ∨ j = 1 := by omega
  rcases hc with rfl | rfl <;> simp [encN] at hz <;> subst hz <;> go_simp
/-- The append onto a side's row, as a step. -/
theorem step_en {P : Program} {ops : Array Oper} {o : Oper} {a : Act} {B : Nat} {w W : World} {K : Act → World → Prop} {Q : Exit → Act → World → Prop} {F : Prop}
    (hg : o.guard = none) (s x : Operand) (tt : TypeId) (hop : o.op = Op.call { callee := Callee.builtin Builtin.append, args := #[s, x], argTypes := #[tt, tt] })
    (i : TypeInfo) (h1 : P.underlying tt = some (.slice 82)) (h2 : P.info? 82 = some i) (h3 : i.zero = some (.agg #[.int .i64 0, .int .i64 0])) (h4 : i.size = 2) (h5 : i.bytes = 16)
    {g N : Nat} {V : Nat → Value} {R : Nat → List (Int × Int)} (h : EnAt B w g N V R) (hB : B ≤ w.heap.size) (hb : RowKit.Below w.heap.size w W) (u : Nat) (t : Int × Int) (hu : u < N * 4) (hs : a.eval s = V u)
    (ad : Addr) (cp : Nat) (hx : a.eval x = .slice (some ad) 1 cp) (hc : ∀ j z, (encN t)[j]? = some z → W.cell? (ad.add j) = some z) (hl : (R u).length ≤ 100000)
    (hK : ∀ gv cv w1, EnAt B (w1.setCell ⟨g, u, none⟩ (.slice (some ⟨gv, 0, none⟩) ((R u).length + 1) cv)) g N (fun v => if v = u then .slice (some ⟨gv, 0, none⟩) ((R u).length + 1) cv else V v) (fun v => if v = u then R u ++ [t] else R v) →
      Out (fun b => (V u).ownBlock = some b) W w1 → EnAt B W g N V R → (∀ b, (V u).ownBlock = some b → B ≤ b) → K (a.put o.dst (.slice (some ⟨gv, 0, none⟩) ((R u).length + 1) cv)) w1) :
    if Region.wanted o (yielded ops a.tmps) = true then Oper.wp P o a W K Q else F := by
  have H := h.below hb (Nat.le_refl _)
  refine step_append_fresh hg s x tt hop B 82 i (.agg #[.int .i64 0, .int .i64 0]) 2 16 h1 h2 h3 h4 h5 rfl (by decide) (V u) (R u).length ((R u).flatMap encN) hs (H.rows u hu) ad 1 cp (encN t) hx rfl hc
    (encN_one t) (by unfold maxLen; omega) (by omega) (Nat.le_trans hB hb.size) fun v' w1 hown hgrow hfr => ?_
  obtain ⟨gv, cv, rfl, _, _, _⟩ := ownsRow_form hown (by omega)
  exact hK gv cv w1 (H.add hu hown hgrow hfr) ((Out.refl _ W).grown hgrow (fun _ _ e => e)) H (fun b hb2 => ((h.rows u hu).lt b hb2).1)
/-- What is left behind: the ends, one more on a side. -/
def AddT (B g N : Nat) (V : Nat → Value) (R : Nat → List (Int × Int)) (u : Nat) (t : Int × Int) (w : World) (e : Ending) (w' : World) : Prop :=
  e = .returned (.tuple #[]) ∧ ∃ V', EnAt B w' g N V' (fun v => if v = u then R u ++ [t] else R v) ∧ Below B w w' ∧ Out (fun b => b = g ∨ (V u).ownBlock = some b) w w'
set_option maxHeartbeats 4000000 in
set_option maxRecDepth 100000 in
theorem addT_ {B : Nat} {w : World} {g N : Nat} {V : Nat → Value} {R : Nat → List (Int × Int)} (h : EnAt B w g N V R) (hB : B ≤ w.heap.size) (v d : Nat) (x y : Int) (hv : v < N) (hd : d < 4) (hl : (R (v * 4 + d)).length ≤ 100000) :
    Calls Tryd.prog 32 #[.pointer (some ⟨g, v * 4, none⟩), .int .i64 d, .agg #[.int .i64 x, .int .i64 y]] w (AddT B g N V R (v * 4 + d) (x, y) w) := by
  obtain ⟨i0, hi, hz0, hz1, hz2⟩ := info_n
  have hu : v * 4 + d < N * 4 := by omega
  have H := Lib.hid h
  have HB := Lib.hid hB
  have g0 := h.cell hu
  have g1 := h.fr (v * 4 + d)
  have gl := h.gl
  have hbs := h.g0
  have hd4 : (d : Int) < 4 := by omega
  clear h hB
  go_enter Tryd.func32, Tryd.ntmps32
  go_upto_region 1 with (fail)
  go_region_law (refine step_en rfl (.tmp 12) (.tmp 14) 77 rfl i0 Tryd.underlying77 hi hz0 hz1 hz2 H.out HB.out ((((Below.refl _ _).alloc (Nat.le_refl _) _).alloc (by simp) _).drew) (v * 4 + d) (x, y) hu (by simp [Act.eval]) ⟨w.heap.size + 1, 0, none⟩ 1 (by simp [Act.eval]) (newsT _ _ (x, y) _ (by simp)) hl ?_; intro gv cv w1 hJ ho hH hown; have J := Lib.hid hJ; have e0 := (ho.cell (v * 4 + d) hH.gl (fun e => hH.offG _ hu e)).trans (hH.cell hu); have e1 := (ho.frz (v * 4 + d) hH.gl (fun e => hH.offG _ hu e)).trans (hH.fr (v * 4 + d)); have O1 := Lib.hid ho; have OW := Lib.hid hown; clear hJ ho hH hown)
  all_goals
    go_wp2_with fail
    go_end0
    exact ⟨rfl, _, J.out, (((((Out.refl (fun b => B ≤ b) w).alloc _).alloc _).drew.trans O1.out (fun i _ e => OW.out i e)).setCell (p := ⟨g, v * 4 + d, none⟩) (fun _ => hbs) _).below HB.out (fun _ _ e => e), Out.setCell (S := fun b => b = g ∨ (V (v * 4 + d)).ownBlock = some b) ((((Out.refl _ w).alloc _).alloc _).drew.trans O1.out (fun i _ e => Or.inr e)) (p := ⟨g, v * 4 + d, none⟩) (fun _ => Or.inl rfl) _⟩
end Go.Proofs.YtecifgaekefkpaaDoor
