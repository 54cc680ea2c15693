/-
  A round in memory; what next leaves. Conditions: none.
-/
import Derived.Test.YtkloaekmjnbacaaNetC
import Derived.Lib.QuietBelow
import Derived.Handy
import Derived.BigRegion
namespace Go.Proofs.Ytkloaekmjnbacaa
open Go.RowKit Go.Proofs.Ytkloaekmjnbacaa.DagM

/-- A round: its block at r, the distances at gd, the steps tried at gt; all of it from T on. -/
structure RoundAt (w0 w : World) (T p gx gf gl gs n : Nat) (E : EndL) (V : Nat → Value) (x f lf : Nat → Int) (tk : Int) (r gd gt : Nat) (far : Nat → Dst) (tr : Nat → Nat) : Prop where
  net : NetAt w0 w T p gx gf gl gs n E.length V (stps E) x f lf tk
  blk : w.heap[r]? = some (.cells #[.pointer (some ⟨p, 0, none⟩), .slice (some ⟨gd, 0, none⟩) n n, .slice (some ⟨gt, 0, none⟩) n n] 96 (0, 0))
  rT : T ≤ r
  rd : RowD w T gd n far
  rt : RowI w T gt n fun v => (tr v : Int)
section
variable {w0 w w' : World} {T p gx gf gl gs n r gd gt : Nat} {E : EndL} {V : Nat → Value} {x f lf : Nat → Int} {tk : Int} {far : Nat → Dst} {tr : Nat → Nat} {S : Nat → Prop}
theorem RoundAt.rl (h : RoundAt w0 w T p gx gf gl gs n E V x f lf tk r gd gt far tr) : r < w.heap.size := (Array.getElem?_eq_some_iff.1 h.blk).1
theorem RoundAt.quiet (h : RoundAt w0 w T p gx gf gl gs n E V x f lf tk r gd gt far tr) (o : Below w.heap.size w w') : RoundAt w0 w' T p gx gf gl gs n E V x f lf tk r gd gt far tr :=
  ⟨h.net.quiet o, by rw [o.block r h.rl]; exact h.blk, h.rT, ownsRow_out (S := fun _ => False) h.rd (Out.ofBelow o) (fun _ _ e => e), ownsRow_out (S := fun _ => False) h.rt (Out.ofBelow o) (fun _ _ e => e)⟩
theorem RoundAt.c0 (h : RoundAt w0 w T p gx gf gl gs n E V x f lf tk r gd gt far tr) : w.cell? ⟨r, 0, none⟩ = some (.pointer (some ⟨p, 0, none⟩)) := by simp [World.cell?, h.blk]
theorem RoundAt.c1 (h : RoundAt w0 w T p gx gf gl gs n E V x f lf tk r gd gt far tr) : w.cell? ⟨r, 1, none⟩ = some (.slice (some ⟨gd, 0, none⟩) n n) := by simp [World.cell?, h.blk]
theorem RoundAt.c2 (h : RoundAt w0 w T p gx gf gl gs n E V x f lf tk r gd gt far tr) : w.cell? ⟨r, 2, none⟩ = some (.slice (some ⟨gt, 0, none⟩) n n) := by simp [World.cell?, h.blk]
theorem RoundAt.away (h : RoundAt w0 w T p gx gf gl gs n E V x f lf tk r gd gt far tr) (o : Out S w w') (hS : ∀ b, S b → b ≠ r ∧ b ≠ gd ∧ b ≠ gt ∧ T ≤ b) : RoundAt w0 w' T p gx gf gl gs n E V x f lf tk r gd gt far tr := by
  refine ⟨h.net.far o (fun b _ e => (hS b e).2.2.2), by rw [o.block r h.rl (fun e => (hS r e).1 rfl)]; exact h.blk, h.rT, ownsRow_out h.rd o (fun b hb e => ?_), ownsRow_out h.rt o (fun b hb e => ?_)⟩
  · simp only [Value.ownBlock, Option.some.injEq] at hb; exact (hS b e).2.1 hb.symm
  · simp only [Value.ownBlock, Option.some.injEq] at hb; exact (hS b e).2.2.1 hb.symm
/-- Another step is tried. -/
theorem RoundAt.tried (h : RoundAt w0 w T p gx gf gl gs n E V x f lf tk r gd gt far tr) (v t : Nat) : RoundAt w0 (w.setCell ⟨gt, v, none⟩ (.int .i64 (t : Int))) T p gx gf gl gs n E V x f lf tk r gd gt far (fun u => if u = v then t else tr u) := by
  have o : Out (fun b => b = gt) w (w.setCell ⟨gt, v, none⟩ (.int .i64 (t : Int))) := Out.setCell (S := fun b => b = gt) (Out.refl _ w) (p := ⟨gt, v, none⟩) (fun _ => rfl) _
  have hg := h.rt.gl
  refine ⟨h.net.far o (fun b _ e => by subst e; exact hg.1), ?_, h.rT, ownsRow_out h.rd o (fun b hb e => ?_), ?_⟩
  · rw [o.block r h.rl (fun e => blk_ne h.rt h.blk (by decide) (by rw [e]; rfl))]
    exact h.blk
  · subst e; exact rows_ne h.rd h.rt (by decide) hb rfl
  · have := h.rt.set v (t : Int)
    exact this.turn (fun u _ => by by_cases e : u = v <;> simp [e])
/-- What flows, what is left, how often: of the network alone. -/
theorem RoundAt.net2 {f' lf' : Nat → Int} {tk' : Int} (h : RoundAt w0 w T p gx gf gl gs n E V x f lf tk r gd gt far tr) (o : Out S w w') (hS : ∀ b, S b → b < T) (k : NetAt w0 w' T p gx gf gl gs n E.length V (stps E) x f' lf' tk') : RoundAt w0 w' T p gx gf gl gs n E V x f' lf' tk' r gd gt far tr := by
  have hr := h.rT
  refine ⟨k, ?_, hr, ownsRow_out h.rd o (fun b hb e => ?_), ownsRow_out h.rt o (fun b hb e => ?_)⟩
  · rw [o.block r h.rl (fun e => by have := hS r e; omega)]
    exact h.blk
  · have := hS b e; have := (World.ownsRow.lt h.rd b hb).1; omega
  · have := hS b e; have := (World.ownsRow.lt h.rt b hb).1; omega
theorem stpA_len (v i : Nat) (e : Nat × Nat) : (stpA v i e).length ≤ 2 := by
  unfold stpA
  split <;> split <;> simp
theorem stps_len (E : EndL) (v : Nat) : (stps E v).length ≤ 2 * E.length := by
  have : ∀ k, (stpsK E k v).length ≤ 2 * k := by
    intro k
    induction k with
    | zero => simp [stpsK]
    | succ k ih => rw [stpsK_succ, List.length_append]; have := stpA_len v k (E.getD k (0, 0)); omega
  exact this _
end

theorem cells4 {w : World} {b : Nat} {a0 a1 a2 a3 c0 c1 c2 c3 : Value} {t : TypeId} (h : w.heap[b]? = some (.cells #[a0, a1, a2, a3] t (0, 0))) :
    ((((w.setCell ⟨b, 0, none⟩ c0).setCell ⟨b, 1, none⟩ c1).setCell ⟨b, 2, none⟩ c2).setCell ⟨b, 3, none⟩ c3).heap[b]? = some (.cells #[c0, c1, c2, c3] t (0, 0)) := by
  rw [heap_setCell_at (heap_setCell_at (heap_setCell_at (heap_setCell_at h 0 c0) 1 c1) 2 c2) 3 c3]
  rfl
theorem out4 {S : Nat → Prop} {w0 w : World} {b : Nat} (h : Out S w0 w) (hb : w0.heap.size ≤ b) (c0 c1 c2 c3 : Value) : Out S w0 ((((w.setCell ⟨b, 0, none⟩ c0).setCell ⟨b, 1, none⟩ c1).setCell ⟨b, 2, none⟩ c2).setCell ⟨b, 3, none⟩ c3) := by
  have k : ∀ j : Nat, (⟨b, j, none⟩ : Addr).block < w0.heap.size → S (⟨b, j, none⟩ : Addr).block := fun j hj => absurd hj (by simp only; omega)
  exact Out.setCell (Out.setCell (Out.setCell (Out.setCell h (k 0) _) (k 1) _) (k 2) _) (k 3) _
noncomputable def trOf (w : World) (gt v : Nat) : Nat := Classical.epsilon fun k : Nat => w.cell? ⟨gt, v, none⟩ = some (.int .i64 (k : Int))
theorem trOf_eq {w : World} {gt v t : Nat} (h : w.cell? ⟨gt, v, none⟩ = some (.int .i64 (t : Int))) : trOf w gt v = t := by
  have h2 : w.cell? ⟨gt, v, none⟩ = some (.int .i64 ((trOf w gt v : Nat) : Int)) := Classical.epsilon_spec (p := fun k : Nat => w.cell? ⟨gt, v, none⟩ = some (.int .i64 (k : Int))) ⟨t, h⟩
  rw [h] at h2
  simp only [Option.some.injEq, Value.int.injEq, true_and] at h2
  omega
def NxR (w0 w : World) (T p gx gf gl gs n : Nat) (E : EndL) (V : Nat → Value) (x f lf : Nat → Int) (tk : Int) (r gd gt : Nat) (far : Nat → Dst) (tr : Nat → Nat) (v B : Nat) (wr : World) (bv : Value) : Prop :=
  bv = .bool false ∧ ∃ t, tr v ≤ t ∧ t ≤ (stps E v).length ∧ (∀ i, tr v ≤ i → i < t → ∀ s, (stps E v)[i]? = some s → adm x f far s = false) ∧ RoundAt w0 wr T p gx gf gl gs n E V x f lf tk r gd gt far (fun u => if u = v then t else tr u) ∧ Out (fun b => b = gt) w wr ∧
    wr.heap[B]? = some (.cells #[.int .i64 0, .int .i64 0, .int .i64 0, .int .i64 0] 72 (0, 0))
/-- What next leaves. -/
def Nexted (w0 w : World) (T p gx gf gl gs n : Nat) (E : EndL) (V : Nat → Value) (x f lf : Nat → Int) (tk : Int) (r gd gt : Nat) (far : Nat → Dst) (tr : Nat → Nat) (v : Nat) (e : Ending) (w' : World) : Prop :=
  ∃ t, tr v ≤ t ∧ (∀ i, tr v ≤ i → i < t → ∀ s, (stps E v)[i]? = some s → adm x f far s = false) ∧ RoundAt w0 w' T p gx gf gl gs n E V x f lf tk r gd gt far (fun u => if u = v then t else tr u) ∧ Out (fun b => b = gt) w w' ∧
    ((∃ s, e = .returned (.tuple #[stpV s, .bool true]) ∧ (stps E v)[t]? = some s ∧ adm x f far s = true) ∨ (e = .returned (.tuple #[stpV (0, 0, 0, 0), .bool false]) ∧ t = (stps E v).length))

theorem nx_step {w0 w w5 : World} {T p gx gf gl gs n r gd gt B : Nat} {E : EndL} {V : Nat → Value} {x f lf : Nat → Int} {tk : Int} {far : Nat → Dst} {tr : Nat → Nat} {v t : Nat} {s : Stp}
    (R5 : RoundAt w0 w5 T p gx gf gl gs n E V x f lf tk r gd gt far (fun u => if u = v then t else tr u)) (O5 : Out (fun b => b = gt) w w5) (C5 : w5.heap[B]? = some (.cells #[.int .i64 0, .int .i64 0, .int .i64 0, .int .i64 0] 72 (0, 0)))
    (hB : B ≠ gt) (ht : tr v ≤ t) (hlt : t < (stps E v).length) (NO : ∀ i, tr v ≤ i → i < t → ∀ s, (stps E v)[i]? = some s → adm x f far s = false) (SQ : (stps E v)[t]? = some s) (AD : adm x f far s = false) :
    NxR w0 w T p gx gf gl gs n E V x f lf tk r gd gt far tr v B (w5.setCell ⟨gt, v, none⟩ (.int .i64 ((t : Int) + 1))) (.bool false) := by
  have h5 := R5.tried v (t + 1)
  have e5 : (fun u => if u = v then t + 1 else if u = v then t else tr u) = fun u => if u = v then t + 1 else tr u := by funext u; by_cases e : u = v <;> simp [e]
  rw [e5] at h5
  push_cast at h5
  refine ⟨rfl, t + 1, by omega, by omega, fun i h1 h2 s' hs' => ?_, h5, O5.setIn _ _, ?_⟩
  · by_cases e : i = t
    · subst e
      rw [SQ] at hs'
      simp only [Option.some.injEq] at hs'
      subst hs'
      exact AD
    · exact NO i h1 (by omega) s' hs'
  · rw [Below.heap_setCell _ _ _ _ hB]
    exact C5
theorem nx_less {w0 w5 wr : World} {T p gx gf gl gs n r gd gt dg : Nat} {E : EndL} {V : Nat → Value} {x f lf : Nat → Int} {tk : Int} {far : Nat → Dst} {tr : Nat → Nat} {v t : Nat}
    (R5 : RoundAt w0 w5 T p gx gf gl gs n E V x f lf tk r gd gt far (fun u => if u = v then t else tr u)) (hv : v < n) (hlt : t < dg) (ME : trOf wr gt v = t) :
    dg - trOf (w5.setCell ⟨gt, v, none⟩ (.int .i64 ((t : Int) + 1))) gt v < dg - trOf wr gt v := by
  have h5 := (R5.tried v (t + 1)).rt.cell hv
  simp only [if_true] at h5
  push_cast at h5
  have e5 : trOf (w5.setCell ⟨gt, v, none⟩ (.int .i64 ((t : Int) + 1))) gt v = t + 1 := trOf_eq (by rw [h5]; simp)
  rw [e5, ME]
  omega

/-- What is to be shown of next. -/
def NextSpec : Prop := ∀ {w0 w : World} {T p gx gf gl gs n r gd gt : Nat} {E : EndL} {V : Nat → Value} {x f lf : Nat → Int} {tk : Int} {far : Nat → Dst} {tr : Nat → Nat} {v : Nat}
    (_h : RoundAt w0 w T p gx gf gl gs n E V x f lf tk r gd gt far tr) (_hF : Fits E n x f) (_hn : n ≤ 4096) (_hm : E.length ≤ 16384) (_hx : ∀ v, v < n → -8192 ≤ x v ∧ x v ≤ 4096) (_hv : v < n) (_hfv : 0 ≤ (far v).2 ∧ (far v).2 ≤ 4096) (_ht : tr v ≤ (stps E v).length),
    Calls Try.prog 67 #[.pointer (some ⟨r, 0, none⟩), .int .i64 (v : Int)] w (Nexted w0 w T p gx gf gl gs n E V x f lf tk r gd gt far tr v)
end Go.Proofs.Ytkloaekmjnbacaa
