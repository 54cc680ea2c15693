/-
  A network in memory; a step's slack, whether a step is open, which distance is less. Conditions: coordinates are within 8192.
-/
import Derived.Test.YtkloaekmjnbacaaFlowC
import Derived.Test.YtkloaekmjnbacaaNetF
import Derived.Test.YtkloaekmjnbacaaHeapVF
namespace Go.Proofs.Ytkloaekmjnbacaa
open Go.RowKit Go.Proofs.Ytkloaekmjnbacaa.DagM

def encS (s : Stp) : List Value := [.int .i64 (s.1 : Int), .int .i64 (s.2.1 : Int), .int .i64 (s.2.2.1 : Int), .int .i64 (s.2.2.2 : Int)]
theorem encS_len (s : Stp) : (encS s).length = 4 := rfl
def stpV (s : Stp) : Value := .agg #[.int .i64 (s.1 : Int), .int .i64 (s.2.1 : Int), .int .i64 (s.2.2.1 : Int), .int .i64 (s.2.2.2 : Int)]
def encD (d : Dst) : List Value := [.int .i64 d.1, .int .i64 d.2]
theorem encD_len (d : Dst) : (encD d).length = 2 := rfl
/-- The ints s of n things in a row of the call's own at g. -/
def RowI (w : World) (B g n : Nat) (s : Nat → Int) : Prop := w.ownsRow B 3 1 (.slice (some ⟨g, 0, none⟩) n n) n ((List.range n).map fun v => encInt (s v))
/-- The steps l in a row of the call's own. -/
def RowS (w : World) (B : Nat) (v : Value) (l : List Stp) : Prop := w.ownsRow B 72 4 v l.length (l.flatMap encS)
/-- The distances of n nodes in a row of the call's own at g. -/
def RowD (w : World) (B g n : Nat) (d : Nat → Dst) : Prop := w.ownsRow B 83 2 (.slice (some ⟨g, 0, none⟩) n n) n (((List.range n).map d).flatMap encD)

theorem row_type {w : World} {B k n : Nat} {e : TypeId} {v : Value} {xs : List Value} (h : w.ownsRow B e k v n xs) {b : Nat} (hb : v.ownBlock = some b) : ∃ cur, w.heap[b]? = some (.cells cur e (0, 0)) := by
  rcases h.2 with ⟨rfl, _⟩ | ⟨g', cap', cur', rfl, _, hh', _⟩
  · simp [Value.ownBlock] at hb
  · simp only [Value.ownBlock, Option.some.injEq] at hb
    subst hb
    exact ⟨_, hh'⟩
theorem rows_ne {w : World} {B k n B' k' n' : Nat} {e e' : TypeId} {v v' : Value} {xs xs' : List Value} (h : w.ownsRow B e k v n xs) (h' : w.ownsRow B' e' k' v' n' xs') (hne : e ≠ e') {b : Nat} (hb : v.ownBlock = some b) : v'.ownBlock ≠ some b := by
  intro hb'
  obtain ⟨c1, h1⟩ := row_type h hb
  obtain ⟨c2, h2⟩ := row_type h' hb'
  rw [h1] at h2
  injection h2 with h2
  injection h2 with _ ht
  exact hne ht
theorem blk_ne {w : World} {B k n p : Nat} {e e' : TypeId} {v : Value} {xs : List Value} {cs : Array Value} (h : w.ownsRow B e k v n xs) (h' : w.heap[p]? = some (.cells cs e' (0, 0))) (hne : e ≠ e') : v.ownBlock ≠ some p := by
  intro hb
  obtain ⟨c1, h1⟩ := row_type h hb
  rw [h1] at h'
  injection h' with h2
  injection h2 with _ ht
  exact hne ht
section
variable {w w' : World} {B g n : Nat} {s : Nat → Int} {d : Nat → Dst}
theorem RowI.gl (h : RowI w B g n s) : B ≤ g ∧ g < w.heap.size := World.ownsRow.lt h g rfl
theorem RowI.cell (h : RowI w B g n s) {v : Nat} (hv : v < n) : w.cell? ⟨g, v, none⟩ = some (.int .i64 (s v)) := by
  unfold RowI at h
  rw [h.cellAt v (by simpa using hv)]
  simp [hv, encInt]
theorem RowI.fr (h : RowI w B g n s) (v : Nat) : w.frozen? ⟨g, v, none⟩ = false := by unfold RowI at h; exact h.frozenAt v
theorem RowI.set (h : RowI w B g n s) (t : Nat) (c : Int) : RowI (w.setCell ⟨g, t, none⟩ (.int .i64 c)) B g n (fun v => if v = t then c else s v) := by
  unfold RowI at h ⊢
  have e : ((List.range n).map fun v => encInt (if v = t then c else s v)) = ((List.range n).map fun v => encInt (s v)).set t (.int .i64 c) := by
    rw [← map_set]
    exact List.map_congr_left (fun v _ => by by_cases e : v = t <;> simp [e, encInt])
  rw [e]
  exact (h.stored t _).1
theorem RowI.turn (h : RowI w B g n s) {s' : Nat → Int} (e : ∀ v, v < n → s v = s' v) : RowI w B g n s' := by
  unfold RowI at h ⊢
  have e2 : ((List.range n).map fun v => encInt (s' v)) = (List.range n).map fun v => encInt (s v) := List.map_congr_left (fun v hv => by rw [e v (by simpa using hv)])
  rw [e2]
  exact h
theorem RowI.made (hB : B ≤ g) (h1 : w.heap[g]? = some (.cells (madeCells #[.int .i64 0] n) 3 (0, 0))) (hN : n ≤ 1000000) : RowI w B g n (fun _ => 0) := by
  refine ⟨by simp, Or.inr ⟨g, n, _, rfl, hB, h1, Nat.le_refl _, by unfold maxLen; omega, by simp [size_madeCells], ?_⟩⟩
  rw [toList_madeCells_one, made_map, List.take_of_length_le (by simp)]
  rfl
theorem RowD.gl (h : RowD w B g n d) : B ≤ g ∧ g < w.heap.size := World.ownsRow.lt h g rfl
theorem RowD.cell (h : RowD w B g n d) {v : Nat} (hv : v < n) : w.cell? ⟨g, v * 2, none⟩ = some (.int .i64 (d v).1) ∧ w.cell? ⟨g, v * 2 + 1, none⟩ = some (.int .i64 (d v).2) := by
  unfold RowD at h
  have hl : ((List.range n).map d).length = n := by simp
  have hget : ∀ r, r < 2 → w.cell? ⟨g, v * 2 + r, none⟩ = some ((encD (d v)).getD r default) := fun r hr => by
    rw [h.cellAt (v * 2 + r) (by omega)]
    have := flat_get encD encD_len ((List.range n).map d) v r (by simpa using hv) hr
    rw [List.getD_eq_getElem?_getD] at this
    have h2 : v * 2 + r < (((List.range n).map d).flatMap encD).length := by rw [flat_len encD encD_len, hl]; omega
    rw [List.getElem?_eq_getElem h2] at this ⊢
    simp only [Option.getD_some] at this
    rw [this]
    simp [List.getD_eq_getElem?_getD, hv]
  exact ⟨hget 0 (by omega), hget 1 (by omega)⟩
theorem RowD.fr (h : RowD w B g n d) (j : Nat) : w.frozen? ⟨g, j, none⟩ = false := by unfold RowD at h; exact h.frozenAt j
theorem RowD.set (h : RowD w B g n d) (t : Nat) (ht : t < n) (c : Dst) : RowD ((w.setCell ⟨g, t * 2, none⟩ (.int .i64 c.1)).setCell ⟨g, t * 2 + 1, none⟩ (.int .i64 c.2)) B g n (fun v => if v = t then c else d v) := by
  unfold RowD at h ⊢
  have e : ((List.range n).map fun v => if v = t then c else d v) = ((List.range n).map d).set t c := map_set n d t c
  have hs := flat_set encD encD_len ((List.range n).map d) t (by simpa using ht) c
  rw [e, ← hs]
  exact ((h.stored (t * 2) _).1.stored (t * 2 + 1) _).1
theorem RowS.cell {v : Value} {l : List Stp} {cap : Nat} (h : RowS w B v l) (hv : v = .slice (some ⟨g, 0, none⟩) n cap) {j : Nat} (hj : j < l.length) :
    w.cell? ⟨g, j * 4, none⟩ = some (.int .i64 (l[j].1 : Int)) ∧ w.cell? ⟨g, j * 4 + 1, none⟩ = some (.int .i64 (l[j].2.1 : Int)) ∧ w.cell? ⟨g, j * 4 + 2, none⟩ = some (.int .i64 (l[j].2.2.1 : Int)) ∧ w.cell? ⟨g, j * 4 + 3, none⟩ = some (.int .i64 (l[j].2.2.2 : Int)) := by
  unfold RowS at h
  subst hv
  have hn : n = l.length := by
    rcases h.2 with ⟨h1, _⟩ | ⟨_, _, _, h1, _⟩
    · simp at h1
    · simp at h1; exact h1.2.1
  subst hn
  have hget : ∀ r, r < 4 → w.cell? ⟨g, j * 4 + r, none⟩ = some ((encS l[j]).getD r default) := fun r hr => by
    rw [h.cellAt (j * 4 + r) (by omega)]
    have := flat_get encS encS_len l j r hj hr
    rw [List.getD_eq_getElem?_getD] at this
    have h2 : j * 4 + r < (l.flatMap encS).length := by rw [flat_len encS encS_len]; omega
    rw [List.getElem?_eq_getElem h2] at this ⊢
    simp only [Option.getD_some] at this
    rw [this]
    simp [List.getD_eq_getElem?_getD, hj]
  exact ⟨hget 0 (by omega), hget 1 (by omega), hget 2 (by omega), hget 3 (by omega)⟩
end

/-- A network: its block at p, its rows; all of it from w0's end on, below T. -/
structure NetAt (w0 w : World) (T p gx gf gl gs n m : Nat) (V : Nat → Value) (R : Nat → List Stp) (x f lf : Nat → Int) (tk : Int) : Prop where
  below : Below w0.heap.size w0 w
  top : T ≤ w.heap.size
  p0 : w0.heap.size ≤ p
  pT : p < T
  blk : w.heap[p]? = some (.cells #[.slice (some ⟨gx, 0, none⟩) n n, .slice (some ⟨gf, 0, none⟩) m m, .slice (some ⟨gl, 0, none⟩) n n, .slice (some ⟨gs, 0, none⟩) n n, .int .i64 tk] 62 (0, 0))
  rx : RowI w w0.heap.size gx n x
  rf : RowI w w0.heap.size gf m f
  rl : RowI w w0.heap.size gl n lf
  rs : w.ownsRow w0.heap.size 70 1 (.slice (some ⟨gs, 0, none⟩) n n) n ((List.range n).map V)
  rows : ∀ v, v < n → RowS w w0.heap.size (V v) (R v)
  xT : gx < T
  fT : gf < T
  lT : gl < T
  sT : gs < T
  vT : ∀ v, v < n → ∀ b, (V v).ownBlock = some b → b < T
  xf : gx ≠ gf
  xl : gx ≠ gl
  fl : gf ≠ gl
section
variable {w0 w w' : World} {T p gx gf gl gs n m : Nat} {V : Nat → Value} {R : Nat → List Stp} {x f lf : Nat → Int} {tk : Int} {S : Nat → Prop}
theorem NetAt.far (h : NetAt w0 w T p gx gf gl gs n m V R x f lf tk) (o : Out S w w') (hS : ∀ b, b < w.heap.size → S b → T ≤ b) : NetAt w0 w' T p gx gf gl gs n m V R x f lf tk := by
  have ht := h.top
  have hp := h.p0
  have hpT := h.pT
  have keep : ∀ {v : Value} {e : TypeId} {n k : Nat} {xs : List Value}, w.ownsRow w0.heap.size e k v n xs → (∀ b, v.ownBlock = some b → b < T) → w'.ownsRow w0.heap.size e k v n xs := fun hr hT =>
    ownsRow_out hr o (fun b hb e => by have := hT b hb; have := hS b (by omega) e; omega)
  have one : ∀ {g n cap : Nat}, g < T → ∀ b, (Value.slice (some ⟨g, 0, none⟩) n cap).ownBlock = some b → b < T := fun hg b hb => by
    simp only [Value.ownBlock, Option.some.injEq] at hb; omega
  refine ⟨h.below.trans (o.below h.below.size (fun i hi e => by have := hS i hi e; omega)), Nat.le_trans ht o.size, hp, hpT, ?_, keep h.rx (one h.xT), keep h.rf (one h.fT), keep h.rl (one h.lT), keep h.rs (one h.sT), fun v hv => keep (h.rows v hv) (h.vT v hv), h.xT, h.fT, h.lT, h.sT, h.vT, h.xf, h.xl, h.fl⟩
  rw [o.block p (by omega) (fun e => by have := hS p (by omega) e; omega)]
  exact h.blk
theorem NetAt.quiet (h : NetAt w0 w T p gx gf gl gs n m V R x f lf tk) (o : Below w.heap.size w w') : NetAt w0 w' T p gx gf gl gs n m V R x f lf tk :=
  h.far (S := fun _ => False) (Out.ofBelow o) (fun _ _ e => e.elim)
theorem NetAt.pl (h : NetAt w0 w T p gx gf gl gs n m V R x f lf tk) : p < w.heap.size := Nat.lt_of_lt_of_le h.pT h.top
theorem NetAt.c0 (h : NetAt w0 w T p gx gf gl gs n m V R x f lf tk) : w.cell? ⟨p, 0, none⟩ = some (.slice (some ⟨gx, 0, none⟩) n n) := by simp [World.cell?, h.blk]
theorem NetAt.c1 (h : NetAt w0 w T p gx gf gl gs n m V R x f lf tk) : w.cell? ⟨p, 1, none⟩ = some (.slice (some ⟨gf, 0, none⟩) m m) := by simp [World.cell?, h.blk]
theorem NetAt.c2 (h : NetAt w0 w T p gx gf gl gs n m V R x f lf tk) : w.cell? ⟨p, 2, none⟩ = some (.slice (some ⟨gl, 0, none⟩) n n) := by simp [World.cell?, h.blk]
theorem NetAt.c3 (h : NetAt w0 w T p gx gf gl gs n m V R x f lf tk) : w.cell? ⟨p, 3, none⟩ = some (.slice (some ⟨gs, 0, none⟩) n n) := by simp [World.cell?, h.blk]
theorem NetAt.c4 (h : NetAt w0 w T p gx gf gl gs n m V R x f lf tk) : w.cell? ⟨p, 4, none⟩ = some (.int .i64 tk) := by simp [World.cell?, h.blk]
theorem NetAt.fr (h : NetAt w0 w T p gx gf gl gs n m V R x f lf tk) (j : Nat) : w.frozen? ⟨p, j, none⟩ = false := by
  simp only [World.frozen?, h.blk]
  simp
theorem NetAt.cellS (h : NetAt w0 w T p gx gf gl gs n m V R x f lf tk) {v : Nat} (hv : v < n) : w.cell? ⟨gs, v, none⟩ = some (V v) := by
  rw [h.rs.cellAt v (by simpa using hv)]
  simp [hv]
theorem NetAt.form (h : NetAt w0 w T p gx gf gl gs n m V R x f lf tk) {v : Nat} (hv : v < n) : ∃ ao cp, V v = .slice ao (R v).length cp := by
  rcases (h.rows v hv).2 with ⟨h1, h2⟩ | ⟨g, cap, cur, hv, _⟩
  · exact ⟨none, 0, by rw [h2]; exact h1⟩
  · exact ⟨_, _, hv⟩
/-- One of its rows of ints is another one. -/
theorem NetAt.turnX (h : NetAt w0 w T p gx gf gl gs n m V R x f lf tk) (t : Nat) (c : Int) : NetAt w0 (w.setCell ⟨gx, t, none⟩ (.int .i64 c)) T p gx gf gl gs n m V R (fun v => if v = t then c else x v) f lf tk := by
  have o : Out (fun b => b = gx) w (w.setCell ⟨gx, t, none⟩ (.int .i64 c)) := Out.setCell (S := fun b => b = gx) (Out.refl _ w) (p := ⟨gx, t, none⟩) (fun _ => rfl) _
  have own : ∀ {k n cap : Nat}, (Value.slice (some ⟨k, 0, none⟩) n cap).ownBlock = some k := rfl
  refine ⟨h.below.trans (o.below h.below.size (fun i _ e => by subst e; exact h.rx.gl.1)), Nat.le_trans h.top o.size, h.p0, h.pT, ?_, h.rx.set t c, ownsRow_out h.rf o (fun b hb e => ?_), ownsRow_out h.rl o (fun b hb e => ?_), ownsRow_out h.rs o (fun b hb e => ?_), fun v hv => ownsRow_out (h.rows v hv) o (fun b hb e => ?_), h.xT, h.fT, h.lT, h.sT, h.vT, h.xf, h.xl, h.fl⟩
  · rw [o.block p h.pl (fun e => blk_ne h.rx h.blk (by decide) (by rw [e]; rfl))]
    exact h.blk
  · subst e; simp only [Value.ownBlock, Option.some.injEq] at hb; exact h.xf hb.symm
  · subst e; simp only [Value.ownBlock, Option.some.injEq] at hb; exact h.xl hb.symm
  · subst e; exact rows_ne h.rs h.rx (by decide) hb rfl
  · subst e; exact rows_ne (h.rows v hv) h.rx (by decide) hb rfl
theorem NetAt.turnF (h : NetAt w0 w T p gx gf gl gs n m V R x f lf tk) (t : Nat) (c : Int) : NetAt w0 (w.setCell ⟨gf, t, none⟩ (.int .i64 c)) T p gx gf gl gs n m V R x (fun v => if v = t then c else f v) lf tk := by
  have o : Out (fun b => b = gf) w (w.setCell ⟨gf, t, none⟩ (.int .i64 c)) := Out.setCell (S := fun b => b = gf) (Out.refl _ w) (p := ⟨gf, t, none⟩) (fun _ => rfl) _
  refine ⟨h.below.trans (o.below h.below.size (fun i _ e => by subst e; exact h.rf.gl.1)), Nat.le_trans h.top o.size, h.p0, h.pT, ?_, ownsRow_out h.rx o (fun b hb e => ?_), h.rf.set t c, ownsRow_out h.rl o (fun b hb e => ?_), ownsRow_out h.rs o (fun b hb e => ?_), fun v hv => ownsRow_out (h.rows v hv) o (fun b hb e => ?_), h.xT, h.fT, h.lT, h.sT, h.vT, h.xf, h.xl, h.fl⟩
  · rw [o.block p h.pl (fun e => blk_ne h.rf h.blk (by decide) (by rw [e]; rfl))]
    exact h.blk
  · subst e; simp only [Value.ownBlock, Option.some.injEq] at hb; exact h.xf hb
  · subst e; simp only [Value.ownBlock, Option.some.injEq] at hb; exact h.fl hb.symm
  · subst e; exact rows_ne h.rs h.rf (by decide) hb rfl
  · subst e; exact rows_ne (h.rows v hv) h.rf (by decide) hb rfl
theorem NetAt.turnL (h : NetAt w0 w T p gx gf gl gs n m V R x f lf tk) (t : Nat) (c : Int) : NetAt w0 (w.setCell ⟨gl, t, none⟩ (.int .i64 c)) T p gx gf gl gs n m V R x f (fun v => if v = t then c else lf v) tk := by
  have o : Out (fun b => b = gl) w (w.setCell ⟨gl, t, none⟩ (.int .i64 c)) := Out.setCell (S := fun b => b = gl) (Out.refl _ w) (p := ⟨gl, t, none⟩) (fun _ => rfl) _
  refine ⟨h.below.trans (o.below h.below.size (fun i _ e => by subst e; exact h.rl.gl.1)), Nat.le_trans h.top o.size, h.p0, h.pT, ?_, ownsRow_out h.rx o (fun b hb e => ?_), ownsRow_out h.rf o (fun b hb e => ?_), h.rl.set t c, ownsRow_out h.rs o (fun b hb e => ?_), fun v hv => ownsRow_out (h.rows v hv) o (fun b hb e => ?_), h.xT, h.fT, h.lT, h.sT, h.vT, h.xf, h.xl, h.fl⟩
  · rw [o.block p h.pl (fun e => blk_ne h.rl h.blk (by decide) (by rw [e]; rfl))]
    exact h.blk
  · subst e; simp only [Value.ownBlock, Option.some.injEq] at hb; exact h.xl hb
  · subst e; simp only [Value.ownBlock, Option.some.injEq] at hb; exact h.fl hb
  · subst e; exact rows_ne h.rs h.rl (by decide) hb rfl
  · subst e; exact rows_ne (h.rows v hv) h.rl (by decide) hb rfl
theorem NetAt.count (h : NetAt w0 w T p gx gf gl gs n m V R x f lf tk) (d : Int) : NetAt w0 (w.setCell ⟨p, 4, none⟩ (.int .i64 d)) T p gx gf gl gs n m V R x f lf d := by
  have o : Out (fun b => b = p) w (w.setCell ⟨p, 4, none⟩ (.int .i64 d)) := Out.setCell (S := fun b => b = p) (Out.refl _ w) (p := ⟨p, 4, none⟩) (fun _ => rfl) _
  have keep : ∀ {v : Value} {e : TypeId} {n k : Nat} {xs : List Value}, w.ownsRow w0.heap.size e k v n xs → e ≠ 62 → (w.setCell ⟨p, 4, none⟩ (.int .i64 d)).ownsRow w0.heap.size e k v n xs := fun hr hne =>
    ownsRow_out hr o (fun b hb e => blk_ne hr h.blk hne (by subst e; exact hb))
  refine ⟨h.below.trans (o.below h.below.size (fun i _ e => by subst e; exact h.p0)), Nat.le_trans h.top o.size, h.p0, h.pT, ?_, keep h.rx (by decide), keep h.rf (by decide), keep h.rl (by decide), keep h.rs (by decide), fun v hv => keep (h.rows v hv) (by decide), h.xT, h.fT, h.lT, h.sT, h.vT, h.xf, h.xl, h.fl⟩
  rw [heap_setCell_at h.blk]; rfl

set_option maxHeartbeats 1000000 in
set_option maxRecDepth 100000 in
theorem slack (h : NetAt w0 w T p gx gf gl gs n m V R x f lf tk) (hx : ∀ v, v < n → -8192 ≤ x v ∧ x v ≤ 4096) (s : Stp) (h1 : s.2.1 < n) (h2 : s.2.2.1 < n) :
    Calls Try.prog 48 #[.pointer (some ⟨p, 0, none⟩), stpV s] w fun e w' => e = .returned (.int .i64 (slk x s)) ∧ Below w.heap.size w w' := by
  obtain ⟨i, a, b, c⟩ := s
  simp only at h1 h2
  have hp := h.pl
  have hg := h.rx.gl.2
  have c0 := h.c0
  have d1 := h.rx.cell h1
  have d2 := h.rx.cell h2
  have b1 := hx a h1
  have b2 := hx b h2
  unfold slk stpV
  simp only
  generalize x a = xa at *
  generalize x b = xb at *
  obtain ⟨b11, b12⟩ := b1
  obtain ⟨b21, b22⟩ := b2
  have w1 : IntKind.i64.wrap (xb - xa) = xb - xa := IntWalk.i64_in _ (by omega)
  have w2 : IntKind.i64.wrap (xb - xa - 1) = xb - xa - 1 := IntWalk.i64_in _ (by omega)
  clear h hx
  by_cases hc : 0 < c
  · have t1 : decide (0 < c) = true := by simpa using hc
    simp only [if_pos hc]
    clear hc
    go_enter Try.func48, Try.ntmps48
    go_wp2
    go_ret
    exact ⟨rfl, (Below.refl _ _).alloc (Nat.le_refl _) _⟩
  · have t1 : decide (0 < c) = false := by simpa using hc
    simp only [if_neg hc]
    clear hc
    go_enter Try.func48, Try.ntmps48
    go_wp2
    go_quiet (fail)
    go_wp2
    go_ret
    exact ⟨rfl, belowN ((Below.refl _ _).alloc (Nat.le_refl _) _) _⟩
set_option maxHeartbeats 1000000 in
set_option maxRecDepth 100000 in
theorem isOpen (h : NetAt w0 w T p gx gf gl gs n m V R x f lf tk) (s : Stp) (h1 : s.1 < m) :
    Calls Try.prog 49 #[.pointer (some ⟨p, 0, none⟩), stpV s] w fun e w' => e = .returned (.bool (opn f s)) ∧ Below w.heap.size w w' := by
  obtain ⟨i, a, b, c⟩ := s
  simp only at h1
  have hp := h.pl
  have hg := h.rf.gl.2
  have c1 := h.c1
  have d1 := h.rf.cell h1
  unfold opn stpV
  simp only
  generalize f i = fi at *
  clear h
  by_cases hc : c = 0
  · subst hc
    go_enter Try.func49, Try.ntmps49
    go_wp2
    go_quiet (fail)
    go_wp2
    go_ret
    exact ⟨rfl, belowN ((Below.refl _ _).alloc (Nat.le_refl _) _) _⟩
  · have t1 : ((c : Int) == 0) = false := by simp; omega
    have t2 : decide (c = 0) = false := by simpa using hc
    rw [t2]
    clear hc
    go_enter Try.func49, Try.ntmps49
    go_wp2
    go_quiet (fail)
    go_wp2
    go_ret
    exact ⟨rfl, belowN ((Below.refl _ _).alloc (Nat.le_refl _) _) _⟩
end

set_option maxHeartbeats 1000000 in
set_option maxRecDepth 100000 in
theorem lessD (d e : Dst) (w : World) :
    Calls Try.prog 45 #[.agg #[.int .i64 d.1, .int .i64 d.2], .agg #[.int .i64 e.1, .int .i64 e.2]] w fun r w' => r = .returned (.bool (ltD d e)) ∧ Below w.heap.size w w' := by
  obtain ⟨d1, d2⟩ := d
  obtain ⟨e1, e2⟩ := e
  unfold ltD
  simp only
  by_cases h1 : d1 < e1
  · have t1 : decide (d1 < e1) = true := by simpa using h1
    rw [t1]
    clear h1
    go_enter Try.func45, Try.ntmps45
    go_wp2
    go_ret
    exact ⟨rfl, ((Below.refl _ _).alloc (Nat.le_refl _) _).alloc (by simp) _⟩
  · have t1 : decide (d1 < e1) = false := by simpa using h1
    rw [t1]
    clear h1
    by_cases h2 : d1 = e1
    · subst h2
      go_enter Try.func45, Try.ntmps45
      go_wp2
      go_ret
      exact ⟨by simp, ((Below.refl _ _).alloc (Nat.le_refl _) _).alloc (by simp) _⟩
    · have t2 : (d1 == e1) = false := by simpa using h2
      have t3 : decide (d1 = e1) = false := by simpa using h2
      rw [t3]
      clear h2
      go_enter Try.func45, Try.ntmps45
      go_wp2
      go_ret
      exact ⟨by simp, ((Below.refl _ _).alloc (Nat.le_refl _) _).alloc (by simp) _⟩
/-- The heap's order: by distance. -/
def ltV (a b : Int × Int × Int) : Bool := ltD a.2 b.2
theorem ordV : HeapM.Ord ltV := ⟨fun x y h => by
    unfold ltV at *
    rw [ltD_not]
    exact ltD_le h, fun x y z h k => by
    unfold ltV at *
    rw [ltD_not] at *
    exact leD_trans k h⟩
set_option maxHeartbeats 1000000 in
set_option maxRecDepth 100000 in
theorem closV (a b : Int × Int × Int) (w : World) :
    Calls Try.prog 44 #[.agg #[.int .i64 a.1, .int .i64 a.2.1, .int .i64 a.2.2], .agg #[.int .i64 b.1, .int .i64 b.2.1, .int .i64 b.2.2]] w fun r w' => r = .returned (.bool (ltV a b)) ∧ Below w.heap.size w w' := by
  go_enter Try.func44, Try.ntmps44
  go_wp2_with (go_at_call 45; refine (lessD a.2 b.2 _).mono ?_; rintro e w1 ⟨rfl, hb⟩; have B1 := Lib.hid hb; clear hb)
  go_ret
  exact ⟨rfl, (((Below.refl _ _).alloc (Nat.le_refl _) _).alloc (by simp) _).trans (B1.out.mono (by simp; omega))⟩
theorem lessV : HV.LessAt 44 ltV := ⟨enters_of Try.func44 (by kernel_rfl) rfl, fun W x y => closV x y W, ordV⟩
end Go.Proofs.Ytkloaekmjnbacaa
