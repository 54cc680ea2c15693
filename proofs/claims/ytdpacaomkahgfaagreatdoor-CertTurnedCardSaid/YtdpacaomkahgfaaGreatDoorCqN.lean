/-
  A network in memory; a step's slack, whether a step is open, which distance is less. Conditions: coordinates are within 8192.
  lower: each node's number is lowered by its slack, at most by near. Supply: of each node. Whether something is left. Conditions: numbers within 8192; the graph may be.
  Supply: of each node. Whether something is left. Conditions: none.
  A round in memory; what next leaves. Conditions: none.
-/
import Derived.Test.YtdpacaomkahgfaaGreatDoorCqF
import Derived.Test.YtdpacaomkahgfaaGreatDoorCqM
import Derived.Test.YtdpacaomkahgfaaGreatDoorCqV
import Derived.Test.YtdpacaomkahgfaaGreatDoorCqG
import Derived.Lib.QuietBelow
import Derived.Handy
import Derived.BigRegion
namespace Go.Proofs.YtdpacaomkahgfaaGreatDoor
open Go.RowKit Go.Proofs.YtdpacaomkahgfaaGreatDoor.DagM

def encS (s : Stp) : List Value := [.int .i64 (s.1 : Int), .int .i64 (s.2.1 : Int), .int .i64 (s.2.2.1 : Int), .int .i64 (s.2.2.2 : Int)]
theorem encS_len (s : Stp) : (encS s).length = 4 := rfl
def stpV (s : Stp) : Value := .agg #[.int .i64 (s.1 : Int), .int .i64 (s.2.1 : Int), .int .i64 (s.2.2.1 : Int), .int .i64 (s.2.2.2 : Int)]
def encD (d : Dst) : List Value := [.int .i64 d.1, .int .i64 d.2]
theorem encD_len (d : Dst) : (encD d).length = 2 := rfl
/-- The ints s of n things in a row of the call's own at g. -/
def RowI (w : World) (B g n : Nat) (s : Nat → Int) : Prop := w.ownsRow B 3 1 (.slice (some ⟨g, 0, none⟩) n n) n ((List.range n).map fun v => encInt (s v))
/-- The steps l in a row of the call's own. -/
def RowS (w : World) (B : Nat) (v : Value) (l : List Stp) : Prop := w.ownsRow B 102 4 v l.length (l.flatMap encS)
/-- The distances of n nodes in a row of the call's own at g. -/
def RowD (w : World) (B g n : Nat) (d : Nat → Dst) : Prop := w.ownsRow B 121 2 (.slice (some ⟨g, 0, none⟩) n n) n (((List.range n).map d).flatMap encD)

theorem row_type {w : World} {B k n : Nat} {e : TypeId} {v : Value} {xs : List Value} (h : w.ownsRow B e k v n xs) {b : Nat} (hb : v.ownBlock = some b) : ∃ cur, w.heap[b]? = some (.cells cur e (0, 0)) := by
  rcases h.2 with ⟨rfl, _⟩ | ⟨g', cap', cur', rfl, _, hh', _⟩
  · simp [Value.ownBlock] at hb
  · simp only [Value.ownBlock, Option.some.injEq] at hb
    subst hb
    exact ⟨_, hh'⟩
theorem rows_ne {w : World} {B k n B' k' n' : Nat} {e e' : TypeId} {v v' : Value} {xs xs' : List Value} (h : w.ownsRow B e k v n xs) (h' : w.ownsRow B' e' k' v' n' xs') (hne : e ≠ e') {b : Nat} (hb : v.ownBlock = some b) : v'.ownBlock ≠ some b := by
  intro hb'
  obtain ⟨c1, h1⟩ := row_type h hb
  obtain ⟨c2, h2⟩ := row_type h' hb'
  rw [h1] at h2
  injection h2 with h2
  injection h2 with _ ht
  exact hne ht
theorem blk_ne {w : World} {B k n p : Nat} {e e' : TypeId} {v : Value} {xs : List Value} {cs : Array Value} (h : w.ownsRow B e k v n xs) (h' : w.heap[p]? = some (.cells cs e' (0, 0))) (hne : e ≠ e') : v.ownBlock ≠ some p := by
  intro hb
  obtain ⟨c1, h1⟩ := row_type h hb
  rw [h1] at h'
  injection h' with h2
  injection h2 with _ ht
  exact hne ht
section
variable {w w' : World} {B g n : Nat} {s : Nat → Int} {d : Nat → Dst}
theorem RowI.gl (h : RowI w B g n s) : B ≤ g ∧ g < w.heap.size := World.ownsRow.lt h g rfl
theorem RowI.cell (h : RowI w B g n s) {v : Nat} (hv : v < n) : w.cell? ⟨g, v, none⟩ = some (.int .i64 (s v)) := by
  unfold RowI at h
  rw [h.cellAt v (by simpa using hv)]
  simp [hv, encInt]
theorem RowI.fr (h : RowI w B g n s) (v : Nat) : w.frozen? ⟨g, v, none⟩ = false := by unfold RowI at h; exact h.frozenAt v
theorem RowI.set (h : RowI w B g n s) (t : Nat) (c : Int) : RowI (w.setCell ⟨g, t, none⟩ (.int .i64 c)) B g n (fun v => if v = t then c else s v) := by
  unfold RowI at h ⊢
  have e : ((List.range n).map fun v => encInt (if v = t then c else s v)) = ((List.range n).map fun v => encInt (s v)).set t (.int .i64 c) := by
    rw [← map_set]
    exact List.map_congr_left (fun v _ => by by_cases e : v = t <;> simp [e, encInt])
  rw [e]
  exact (h.stored t _).1
theorem RowI.turn (h : RowI w B g n s) {s' : Nat → Int} (e : ∀ v, v < n → s v = s' v) : RowI w B g n s' := by
  unfold RowI at h ⊢
  have e2 : ((List.range n).map fun v => encInt (s' v)) = (List.range n).map fun v => encInt (s v) := List.map_congr_left (fun v hv => by rw [e v (by simpa using hv)])
  rw [e2]
  exact h
theorem RowI.made (hB : B ≤ g) (h1 : w.heap[g]? = some (.cells (madeCells #[.int .i64 0] n) 3 (0, 0))) (hN : n ≤ 1000000) : RowI w B g n (fun _ => 0) := by
  refine ⟨by simp, Or.inr ⟨g, n, _, rfl, hB, h1, Nat.le_refl _, by unfold maxLen; omega, by simp [size_madeCells], ?_⟩⟩
  rw [toList_madeCells_one, made_map, List.take_of_length_le (by simp)]
  rfl
theorem RowD.gl (h : RowD w B g n d) : B ≤ g ∧ g < w.heap.size := World.ownsRow.lt h g rfl
theorem RowD.cell (h : RowD w B g n d) {v : Nat} (hv : v < n) : w.cell? ⟨g, v * 2, none⟩ = some (.int .i64 (d v).1) ∧ w.cell? ⟨g, v * 2 + 1, none⟩ = some (.int .i64 (d v).2) := by
  unfold RowD at h
  have hl : ((List.range n).map d).length = n := by simp
  have hget : ∀ r, r < 2 → w.cell? ⟨g, v * 2 + r, none⟩ = some ((encD (d v)).getD r default) := fun r hr => by
    rw [h.cellAt (v * 2 + r) (by omega)]
    have := flat_get encD encD_len ((List.range n).map d) v r (by simpa using hv) hr
    rw [List.getD_eq_getElem?_getD] at this
    have h2 : v * 2 + r < (((List.range n).map d).flatMap encD).length := by rw [flat_len encD encD_len, hl]; omega
    rw [List.getElem?_eq_getElem h2] at this ⊢
    simp only [Option.getD_some] at this
    rw [this]
    simp [List.getD_eq_getElem?_getD, hv]
  exact ⟨hget 0 (by omega), hget 1 (by omega)⟩
theorem RowD.fr (h : RowD w B g n d) (j : Nat) : w.frozen? ⟨g, j, none⟩ = false := by unfold RowD at h; exact h.frozenAt j
theorem RowD.set (h : RowD w B g n d) (t : Nat) (ht : t < n) (c : Dst) : RowD ((w.setCell ⟨g, t * 2, none⟩ (.int .i64 c.1)).setCell ⟨g, t * 2 + 1, none⟩ (.int .i64 c.2)) B g n (fun v => if v = t then c else d v) := by
  unfold RowD at h ⊢
  have e : ((List.range n).map fun v => if v = t then c else d v) = ((List.range n).map d).set t c := map_set n d t c
  have hs := flat_set encD encD_len ((List.range n).map d) t (by simpa using ht) c
  rw [e, ← hs]
  exact ((h.stored (t * 2) _).1.stored (t * 2 + 1) _).1
theorem RowS.cell {v : Value} {l : List Stp} {cap : Nat} (h : RowS w B v l) (hv : v = .slice (some ⟨g, 0, none⟩) n cap) {j : Nat} (hj : j < l.length) :
    w.cell? ⟨g, j * 4, none⟩ = some (.int .i64 (l[j].1 : Int)) ∧ w.cell? ⟨g, j * 4 + 1, none⟩ = some (.int .i64 (l[j].2.1 : Int)) ∧ w.cell? ⟨g, j * 4 + 2, none⟩ = some (.int .i64 (l[j].2.2.1 : Int)) ∧ w.cell? ⟨g, j * 4 + 3, none⟩ = some (.int .i64 (l[j].2.2.2 : Int)) := by
  unfold RowS at h
  subst hv
  have hn : n = l.length := by
    rcases h.2 with ⟨h1, _⟩ | ⟨_, _, _, h1, _⟩
    · simp at h1
    · simp at h1; exact h1.2.1
  subst hn
  have hget : ∀ r, r < 4 → w.cell? ⟨g, j * 4 + r, none⟩ = some ((encS l[j]).getD r default) := fun r hr => by
    rw [h.cellAt (j * 4 + r) (by omega)]
    have := flat_get encS encS_len l j r hj hr
    rw [List.getD_eq_getElem?_getD] at this
    have h2 : j * 4 + r < (l.flatMap encS).length := by rw [flat_len encS encS_len]; omega
    rw [List.getElem?_eq_getElem h2] at this ⊢
    simp only [Option.getD_some] at this
    rw [this]
    simp [List.getD_eq_getElem?_getD, hj]
  exact ⟨hget 0 (by omega), hget 1 (by omega), hget 2 (by omega), hget 3 (by omega)⟩
end

/-- A network: its block at p, its rows; all of it from w0's end on, below T. -/
structure NetAt (w0 w : World) (T p gx gf gl gs n m : Nat) (V : Nat → Value) (R : Nat → List Stp) (x f lf : Nat → Int) (tk : Int) : Prop where
  below : Below w0.heap.size w0 w
  top : T ≤ w.heap.size
  p0 : w0.heap.size ≤ p
  pT : p < T
  blk : w.heap[p]? = some (.cells #[.slice (some ⟨gx, 0, none⟩) n n, .slice (some ⟨gf, 0, none⟩) m m, .slice (some ⟨gl, 0, none⟩) n n, .slice (some ⟨gs, 0, none⟩) n n, .int .i64 tk] 71 (0, 0))
  rx : RowI w w0.heap.size gx n x
  rf : RowI w w0.heap.size gf m f
  rl : RowI w w0.heap.size gl n lf
  rs : w.ownsRow w0.heap.size 100 1 (.slice (some ⟨gs, 0, none⟩) n n) n ((List.range n).map V)
  rows : ∀ v, v < n → RowS w w0.heap.size (V v) (R v)
  xT : gx < T
  fT : gf < T
  lT : gl < T
  sT : gs < T
  vT : ∀ v, v < n → ∀ b, (V v).ownBlock = some b → b < T
  xf : gx ≠ gf
  xl : gx ≠ gl
  fl : gf ≠ gl
section
variable {w0 w w' : World} {T p gx gf gl gs n m : Nat} {V : Nat → Value} {R : Nat → List Stp} {x f lf : Nat → Int} {tk : Int} {S : Nat → Prop}
theorem NetAt.far (h : NetAt w0 w T p gx gf gl gs n m V R x f lf tk) (o : Out S w w') (hS : ∀ b, b < w.heap.size → S b → T ≤ b) : NetAt w0 w' T p gx gf gl gs n m V R x f lf tk := by
  have ht := h.top
  have hp := h.p0
  have hpT := h.pT
  have keep : ∀ {v : Value} {e : TypeId} {n k : Nat} {xs : List Value}, w.ownsRow w0.heap.size e k v n xs → (∀ b, v.ownBlock = some b → b < T) → w'.ownsRow w0.heap.size e k v n xs := fun hr hT =>
    ownsRow_out hr o (fun b hb e => by have := hT b hb; have := hS b (by omega) e; omega)
  have one : ∀ {g n cap : Nat}, g < T → ∀ b, (Value.slice (some ⟨g, 0, none⟩) n cap).ownBlock = some b → b < T := fun hg b hb => by
    simp only [Value.ownBlock, Option.some.injEq] at hb; omega
  refine ⟨h.below.trans (o.below h.below.size (fun i hi e => by have := hS i hi e; omega)), Nat.le_trans ht o.size, hp, hpT, ?_, keep h.rx (one h.xT), keep h.rf (one h.fT), keep h.rl (one h.lT), keep h.rs (one h.sT), fun v hv => keep (h.rows v hv) (h.vT v hv), h.xT, h.fT, h.lT, h.sT, h.vT, h.xf, h.xl, h.fl⟩
  rw [o.block p (by omega) (fun e => by have := hS p (by omega) e; omega)]
  exact h.blk
theorem NetAt.quiet (h : NetAt w0 w T p gx gf gl gs n m V R x f lf tk) (o : Below w.heap.size w w') : NetAt w0 w' T p gx gf gl gs n m V R x f lf tk :=
  h.far (S := fun _ => False) (Out.ofBelow o) (fun _ _ e => e.elim)
theorem NetAt.pl (h : NetAt w0 w T p gx gf gl gs n m V R x f lf tk) : p < w.heap.size := Nat.lt_of_lt_of_le h.pT h.top
theorem NetAt.c0 (h : NetAt w0 w T p gx gf gl gs n m V R x f lf tk) : w.cell? ⟨p, 0, none⟩ = some (.slice (some ⟨gx, 0, none⟩) n n) := by simp [World.cell?, h.blk]
theorem NetAt.c1 (h : NetAt w0 w T p gx gf gl gs n m V R x f lf tk) : w.cell? ⟨p, 1, none⟩ = some (.slice (some ⟨gf, 0, none⟩) m m) := by simp [World.cell?, h.blk]
theorem NetAt.c2 (h : NetAt w0 w T p gx gf gl gs n m V R x f lf tk) : w.cell? ⟨p, 2, none⟩ = some (.slice (some ⟨gl, 0, none⟩) n n) := by simp [World.cell?, h.blk]
theorem NetAt.c3 (h : NetAt w0 w T p gx gf gl gs n m V R x f lf tk) : w.cell? ⟨p, 3, none⟩ = some (.slice (some ⟨gs, 0, none⟩) n n) := by simp [World.cell?, h.blk]
theorem NetAt.c4 (h : NetAt w0 w T p gx gf gl gs n m V R x f lf tk) : w.cell? ⟨p, 4, none⟩ = some (.int .i64 tk) := by simp [World.cell?, h.blk]
theorem NetAt.fr (h : NetAt w0 w T p gx gf gl gs n m V R x f lf tk) (j : Nat) : w.frozen? ⟨p, j, none⟩ = false := by
  simp only [World.frozen?, h.blk]
  simp
theorem NetAt.cellS (h : NetAt w0 w T p gx gf gl gs n m V R x f lf tk) {v : Nat} (hv : v < n) : w.cell? ⟨gs, v, none⟩ = some (V v) := by
  rw [h.rs.cellAt v (by simpa using hv)]
  simp [hv]
theorem NetAt.form (h : NetAt w0 w T p gx gf gl gs n m V R x f lf tk) {v : Nat} (hv : v < n) : ∃ ao cp, V v = .slice ao (R v).length cp := by
  rcases (h.rows v hv).2 with ⟨h1, h2⟩ | ⟨g, cap, cur, hv, _⟩
  · exact ⟨none, 0, by rw [h2]; exact h1⟩
  · exact ⟨_, _, hv⟩
/-- One of its rows of ints is another one. -/
theorem NetAt.turnX (h : NetAt w0 w T p gx gf gl gs n m V R x f lf tk) (t : Nat) (c : Int) : NetAt w0 (w.setCell ⟨gx, t, none⟩ (.int .i64 c)) T p gx gf gl gs n m V R (fun v => if v = t then c else x v) f lf tk := by
  have o : Out (fun b => b = gx) w (w.setCell ⟨gx, t, none⟩ (.int .i64 c)) := Out.setCell (S := fun b => b = gx) (Out.refl _ w) (p := ⟨gx, t, none⟩) (fun _ => rfl) _
  have own : ∀ {k n cap : Nat}, (Value.slice (some ⟨k, 0, none⟩) n cap).ownBlock = some k := rfl
  refine ⟨h.below.trans (o.below h.below.size (fun i _ e => by subst e; exact h.rx.gl.1)), Nat.le_trans h.top o.size, h.p0, h.pT, ?_, h.rx.set t c, ownsRow_out h.rf o (fun b hb e => ?_), ownsRow_out h.rl o (fun b hb e => ?_), ownsRow_out h.rs o (fun b hb e => ?_), fun v hv => ownsRow_out (h.rows v hv) o (fun b hb e => ?_), h.xT, h.fT, h.lT, h.sT, h.vT, h.xf, h.xl, h.fl⟩
  · rw [o.block p h.pl (fun e => blk_ne h.rx h.blk (by decide) (by rw [e]; rfl))]
    exact h.blk
  · subst e; simp only [Value.ownBlock, Option.some.injEq] at hb; exact h.xf hb.symm
  · subst e; simp only [Value.ownBlock, Option.some.injEq] at hb; exact h.xl hb.symm
  · subst e; exact rows_ne h.rs h.rx (by decide) hb rfl
  · subst e; exact rows_ne (h.rows v hv) h.rx (by decide) hb rfl
theorem NetAt.turnF (h : NetAt w0 w T p gx gf gl gs n m V R x f lf tk) (t : Nat) (c : Int) : NetAt w0 (w.setCell ⟨gf, t, none⟩ (.int .i64 c)) T p gx gf gl gs n m V R x (fun v => if v = t then c else f v) lf tk := by
  have o : Out (fun b => b = gf) w (w.setCell ⟨gf, t, none⟩ (.int .i64 c)) := Out.setCell (S := fun b => b = gf) (Out.refl _ w) (p := ⟨gf, t, none⟩) (fun _ => rfl) _
  refine ⟨h.below.trans (o.below h.below.size (fun i _ e => by subst e; exact h.rf.gl.1)), Nat.le_trans h.top o.size, h.p0, h.pT, ?_, ownsRow_out h.rx o (fun b hb e => ?_), h.rf.set t c, ownsRow_out h.rl o (fun b hb e => ?_), ownsRow_out h.rs o (fun b hb e => ?_), fun v hv => ownsRow_out (h.rows v hv) o (fun b hb e => ?_), h.xT, h.fT, h.lT, h.sT, h.vT, h.xf, h.xl, h.fl⟩
  · rw [o.block p h.pl (fun e => blk_ne h.rf h.blk (by decide) (by rw [e]; rfl))]
    exact h.blk
  · subst e; simp only [Value.ownBlock, Option.some.injEq] at hb; exact h.xf hb
  · subst e; simp only [Value.ownBlock, Option.some.injEq] at hb; exact h.fl hb.symm
  · subst e; exact rows_ne h.rs h.rf (by decide) hb rfl
  · subst e; exact rows_ne (h.rows v hv) h.rf (by decide) hb rfl
theorem NetAt.turnL (h : NetAt w0 w T p gx gf gl gs n m V R x f lf tk) (t : Nat) (c : Int) : NetAt w0 (w.setCell ⟨gl, t, none⟩ (.int .i64 c)) T p gx gf gl gs n m V R x f (fun v => if v = t then c else lf v) tk := by
  have o : Out (fun b => b = gl) w (w.setCell ⟨gl, t, none⟩ (.int .i64 c)) := Out.setCell (S := fun b => b = gl) (Out.refl _ w) (p := ⟨gl, t, none⟩) (fun _ => rfl) _
  refine ⟨h.below.trans (o.below h.below.size (fun i _ e => by subst e; exact h.rl.gl.1)), Nat.le_trans h.top o.size, h.p0, h.pT, ?_, ownsRow_out h.rx o (fun b hb e => ?_), ownsRow_out h.rf o (fun b hb e => ?_), h.rl.set t c, ownsRow_out h.rs o (fun b hb e => ?_), fun v hv => ownsRow_out (h.rows v hv) o (fun b hb e => ?_), h.xT, h.fT, h.lT, h.sT, h.vT, h.xf, h.xl, h.fl⟩
  · rw [o.block p h.pl (fun e => blk_ne h.rl h.blk (by decide) (by rw [e]; rfl))]
    exact h.blk
  · subst e; simp only [Value.ownBlock, Option.some.injEq] at hb; exact h.xl hb
  · subst e; simp only [Value.ownBlock, Option.some.injEq] at hb; exact h.fl hb
  · subst e; exact rows_ne h.rs h.rl (by decide) hb rfl
  · subst e; exact rows_ne (h.rows v hv) h.rl (by decide) hb rfl
theorem NetAt.count (h : NetAt w0 w T p gx gf gl gs n m V R x f lf tk) (d : Int) : NetAt w0 (w.setCell ⟨p, 4, none⟩ (.int .i64 d)) T p gx gf gl gs n m V R x f lf d := by
  have o : Out (fun b => b = p) w (w.setCell ⟨p, 4, none⟩ (.int .i64 d)) := Out.setCell (S := fun b => b = p) (Out.refl _ w) (p := ⟨p, 4, none⟩) (fun _ => rfl) _
  have keep : ∀ {v : Value} {e : TypeId} {n k : Nat} {xs : List Value}, w.ownsRow w0.heap.size e k v n xs → e ≠ 71 → (w.setCell ⟨p, 4, none⟩ (.int .i64 d)).ownsRow w0.heap.size e k v n xs := fun hr hne =>
    ownsRow_out hr o (fun b hb e => blk_ne hr h.blk hne (by subst e; exact hb))
  refine ⟨h.below.trans (o.below h.below.size (fun i _ e => by subst e; exact h.p0)), Nat.le_trans h.top o.size, h.p0, h.pT, ?_, keep h.rx (by decide), keep h.rf (by decide), keep h.rl (by decide), keep h.rs (by decide), fun v hv => keep (h.rows v hv) (by decide), h.xT, h.fT, h.lT, h.sT, h.vT, h.xf, h.xl, h.fl⟩
  rw [heap_setCell_at h.blk]; rfl

set_option maxHeartbeats 1000000 in
set_option maxRecDepth 100000 in
theorem slack (h : NetAt w0 w T p gx gf gl gs n m V R x f lf tk) (hx : ∀ v, v < n → -8192 ≤ x v ∧ x v ≤ 4096) (s : Stp) (h1 : s.2.1 < n) (h2 : s.2.2.1 < n) :
    Calls Tryz.prog 75 #[.pointer (some ⟨p, 0, none⟩), stpV s] w fun e w' => e = .returned (.int .i64 (slk x s)) ∧ Below w.heap.size w w' := by
  obtain ⟨i, a, b, c⟩ := s
  simp only at h1 h2
  have hp := h.pl
  have hg := h.rx.gl.2
  have c0 := h.c0
  have d1 := h.rx.cell h1
  have d2 := h.rx.cell h2
  have b1 := hx a h1
  have b2 := hx b h2
  unfold slk stpV
  simp only
  generalize x a = xa at *
  generalize x b = xb at *
  obtain ⟨b11, b12⟩ := b1
  obtain ⟨b21, b22⟩ := b2
  have w1 : IntKind.i64.wrap (xb - xa) = xb - xa := IntWalk.i64_in _ (by omega)
  have w2 : IntKind.i64.wrap (xb - xa - 1) = xb - xa - 1 := IntWalk.i64_in _ (by omega)
  clear h hx
  by_cases hc : 0 < c
  · have t1 : decide (0 < c) = true := by simpa using hc
    simp only [if_pos hc]
    clear hc
    go_enter Tryz.func75, Tryz.ntmps75
    go_wp2
    go_ret
    exact ⟨rfl, (Below.refl _ _).alloc (Nat.le_refl _) _⟩
  · have t1 : decide (0 < c) = false := by simpa using hc
    simp only [if_neg hc]
    clear hc
    go_enter Tryz.func75, Tryz.ntmps75
    go_wp2
    go_quiet (fail)
    go_wp2
    go_ret
    exact ⟨rfl, belowN ((Below.refl _ _).alloc (Nat.le_refl _) _) _⟩
set_option maxHeartbeats 1000000 in
set_option maxRecDepth 100000 in
theorem isOpen (h : NetAt w0 w T p gx gf gl gs n m V R x f lf tk) (s : Stp) (h1 : s.1 < m) :
    Calls Tryz.prog 76 #[.pointer (some ⟨p, 0, none⟩), stpV s] w fun e w' => e = .returned (.bool (opn f s)) ∧ Below w.heap.size w w' := by
  obtain ⟨i, a, b, c⟩ := s
  simp only at h1
  have hp := h.pl
  have hg := h.rf.gl.2
  have c1 := h.c1
  have d1 := h.rf.cell h1
  unfold opn stpV
  simp only
  generalize f i = fi at *
  clear h
  by_cases hc : c = 0
  · subst hc
    go_enter Tryz.func76, Tryz.ntmps76
    go_wp2
    go_quiet (fail)
    go_wp2
    go_ret
    exact ⟨rfl, belowN ((Below.refl _ _).alloc (Nat.le_refl _) _) _⟩
  · have t1 : ((c : Int) == 0) = false := by simp; omega
    have t2 : decide (c = 0) = false := by simpa using hc
    rw [t2]
    clear hc
    go_enter Tryz.func76, Tryz.ntmps76
    go_wp2
    go_quiet (fail)
    go_wp2
    go_ret
    exact ⟨rfl, belowN ((Below.refl _ _).alloc (Nat.le_refl _) _) _⟩
end

set_option maxHeartbeats 1000000 in
set_option maxRecDepth 100000 in
theorem lessD (d e : Dst) (w : World) :
    Calls Tryz.prog 72 #[.agg #[.int .i64 d.1, .int .i64 d.2], .agg #[.int .i64 e.1, .int .i64 e.2]] w fun r w' => r = .returned (.bool (ltD d e)) ∧ Below w.heap.size w w' := by
  obtain ⟨d1, d2⟩ := d
  obtain ⟨e1, e2⟩ := e
  unfold ltD
  simp only
  by_cases h1 : d1 < e1
  · have t1 : decide (d1 < e1) = true := by simpa using h1
    rw [t1]
    clear h1
    go_enter Tryz.func72, Tryz.ntmps72
    go_wp2
    go_ret
    exact ⟨rfl, ((Below.refl _ _).alloc (Nat.le_refl _) _).alloc (by simp) _⟩
  · have t1 : decide (d1 < e1) = false := by simpa using h1
    rw [t1]
    clear h1
    by_cases h2 : d1 = e1
    · subst h2
      go_enter Tryz.func72, Tryz.ntmps72
      go_wp2
      go_ret
      exact ⟨by simp, ((Below.refl _ _).alloc (Nat.le_refl _) _).alloc (by simp) _⟩
    · have t2 : (d1 == e1) = false := by simpa using h2
      have t3 : decide (d1 = e1) = false := by simpa using h2
      rw [t3]
      clear h2
      go_enter Tryz.func72, Tryz.ntmps72
      go_wp2
      go_ret
      exact ⟨by simp, ((Below.refl _ _).alloc (Nat.le_refl _) _).alloc (by simp) _⟩
/-- The heap's order: by distance. -/
def ltV (a b : Int × Int × Int) : Bool := ltD a.2 b.2
theorem ordV : HeapM.Ord ltV := ⟨fun x y h => by
    unfold ltV at *
    rw [ltD_not]
    exact ltD_le h, fun x y z h k => by
    unfold ltV at *
    rw [ltD_not] at *
    exact leD_trans k h⟩
set_option maxHeartbeats 1000000 in
set_option maxRecDepth 100000 in
theorem closV (a b : Int × Int × Int) (w : World) :
    Calls Tryz.prog 71 #[.agg #[.int .i64 a.1, .int .i64 a.2.1, .int .i64 a.2.2], .agg #[.int .i64 b.1, .int .i64 b.2.1, .int .i64 b.2.2]] w fun r w' => r = .returned (.bool (ltV a b)) ∧ Below w.heap.size w w' := by
  go_enter Tryz.func71, Tryz.ntmps71
  go_wp2_with (go_at_call 72; refine (lessD a.2 b.2 _).mono ?_; rintro e w1 ⟨rfl, hb⟩; have B1 := Lib.hid hb; clear hb)
  go_ret
  exact ⟨rfl, (((Below.refl _ _).alloc (Nat.le_refl _) _).alloc (by simp) _).trans (B1.out.mono (by simp; omega))⟩
theorem lessV : HV.LessAt 71 ltV := ⟨enters_of Tryz.func71 (by kernel_rfl) rfl, fun W x y => closV x y W, ordV⟩
end Go.Proofs.YtdpacaomkahgfaaGreatDoor

namespace Go.Proofs.YtdpacaomkahgfaaGreatDoor
open Go.RowKit Go.Proofs.YtdpacaomkahgfaaGreatDoor.DagM

def LwR (w0 w : World) (T p gx gf gl gs n m : Nat) (V : Nat → Value) (R : Nat → List Stp) (x f lf : Nat → Int) (tk near : Int) (far : Nat → Dst) (wr : World) (iv : Value) : Prop :=
  ∃ k : Nat, iv = .int .i64 k ∧ k ≤ n ∧ NetAt w0 wr T p gx gf gl gs n m V R (fun v => if v < k then x v - min (far v).1 near else x v) f lf tk ∧ Out (fun b => b = gx) w wr

set_option maxHeartbeats 2000000 in
set_option maxRecDepth 100000 in
theorem lower {w0 w : World} {T p gx gf gl gs n m gd B : Nat} {V : Nat → Value} {R : Nat → List Stp} {x f lf : Nat → Int} {tk near : Int} {far : Nat → Dst}
    (h : NetAt w0 w T p gx gf gl gs n m V R x f lf tk) (hD : RowD w B gd n far) (hn : n ≤ 4096) (hx : ∀ v, v < n → -8192 ≤ x v ∧ x v ≤ 4096) (hr : 0 ≤ near ∧ near ≤ 12288) (hf : ∀ v, v < n → 0 ≤ (far v).1) :
    Calls Tryz.prog 51 #[.pointer (some ⟨p, 0, none⟩), .slice (some ⟨gd, 0, none⟩) n n, .int .i64 near] w fun e w' => e = .returned (.tuple #[]) ∧ NetAt w0 w' T p gx gf gl gs n m V R (fun v => x v - min (far v).1 near) f lf tk ∧ Out (fun b => b = gx) w w' := by
  have hp := h.pl
  have c0 := h.c0
  have H := Lib.hid h
  have HD := Lib.hid hD
  have HX := Lib.hid hx
  have HF := Lib.hid hf
  obtain ⟨hr1, hr2⟩ := hr
  clear h hD hx hf
  go_enter Tryz.func51, Tryz.ntmps51
  go_wp2
  clear c0
  go_loopw [12] (fun iv wr => LwR w0 w T p gx gf gl gs n m V R x f lf tk near far wr iv) (fun iv _ => n - (intOf iv).toNat)
  case atStart => exact ⟨0, rfl, by omega, by simpa using H.out, Out.refl _ _⟩
  case round =>
    obtain ⟨k, rfl, hk, hI, hO⟩ := hrel
    have I := Lib.hid hI
    have O := Lib.hid hO
    have hgx := hI.rx.gl.2
    have hpl := hI.pl
    clear hI hO
    by_cases hlt : k < n
    · have c0 := I.out.c0
      have hDr : RowD wr B gd n far := ownsRow_out HD.out O.out (fun b hb e => by subst e; exact rows_ne HD.out H.out.rx (by decide) hb rfl)
      have hgd := hDr.gl.2
      have d0 := (hDr.cell hlt).1
      have x0 := I.out.rx.cell hlt
      simp only [Nat.lt_irrefl, if_false] at x0
      have x1 := I.out.rx.fr k
      have b1 := HX.out k hlt
      have b2 := HF.out k hlt
      have hxk : ∀ v, (if v = k then x k - min (far k).1 near else if v < k then x v - min (far v).1 near else x v) = if v < k + 1 then x v - min (far v).1 near else x v := fun v => by
        by_cases e : v = k
        · subst e; simp
        · have : v < k + 1 ↔ v < k := by omega
          simp [e, this]
      have XK := Lib.hid hxk
      clear hDr hxk
      generalize hxv : x k = xk at *
      have QX := Lib.hid hxv
      generalize hfv : (far k).1 = fk at *
      have QF := Lib.hid hfv
      obtain ⟨b11, b12⟩ := b1
      have w1 : IntKind.i64.wrap (xk - min fk near) = xk - min fk near := IntWalk.i64_in _ (by omega)
      clear hxv hfv
      go_wp2
      go_still_tail 16, (by kernel_rfl)
      change wpList _ _ _ _ _ wr.drew
      go_wp2
      go_roundw
      case rel =>
        have h2 := (I.out.turnX k (xk - min fk near)).quiet (Below.refl _ _).drew
        rw [funext XK.out] at h2
        exact ⟨k + 1, by go_num, by omega, h2, (O.out.setIn _ _).drew⟩
      case measure => simp [intOf]; omega
    · obtain rfl : n = k := by omega
      go_wp2
      go_end0
      refine ⟨rfl, ?_, O.out⟩
      have h := I.out
      have e : ∀ v, v < n → (if v < n then x v - min (far v).1 near else x v) = x v - min (far v).1 near := fun v hv => if_pos hv
      exact { h with rx := h.rx.turn e }
end Go.Proofs.YtdpacaomkahgfaaGreatDoor

namespace Go.Proofs.YtdpacaomkahgfaaGreatDoor
open Go.RowKit Go.Proofs.YtdpacaomkahgfaaGreatDoor.DagM

def Spl (n : Nat) (L : List Arc) (w : World) (e : Ending) (w' : World) : Prop := ∃ g, e = .returned (.slice (some ⟨g, 0, none⟩) n n) ∧ w.heap.size ≤ g ∧ RowI w' w.heap.size g n (fun v => supF L v) ∧ Below w.heap.size w w'
/-- An arc in a box of the call's own. -/
structure BoxA (w : World) (b : Nat) (f t z : Int) : Prop where
  lt : b < w.heap.size
  c0 : w.cell? ⟨b, 0, none⟩ = some (.int .i64 f)
  c1 : w.cell? ⟨b, 1, none⟩ = some (.int .i64 t)
  c2 : w.cell? ⟨b, 2, none⟩ = some (.int .i64 z)
theorem BoxA.out {w w' : World} {b : Nat} {f t z : Int} {S : Nat → Prop} (h : BoxA w b f t z) (o : Out S w w') (hS : ¬ S b) : BoxA w' b f t z :=
  ⟨Nat.lt_of_lt_of_le h.lt o.size, (o.cell 0 h.lt hS).trans h.c0, (o.cell 1 h.lt hS).trans h.c1, (o.cell 2 h.lt hS).trans h.c2⟩
theorem BoxA.new (w : World) (f t z : Int) (T : TypeId) : BoxA (w.alloc (.cells #[.int .i64 f, .int .i64 t, .int .i64 z] T)) w.heap.size f t z := ⟨by simp, by go_simp, by go_simp, by go_simp⟩

set_option maxHeartbeats 4000000 in
set_option maxRecDepth 100000 in
theorem supplyOk (n : Nat) (v : Value) (L : List Arc) (w : World) (hA : ArcsAt w v L) (hM : May n L) :
    Calls Tryz.prog 25 #[.int .i64 n, v] w (Spl n L w) := by
  have HA := Lib.hid hA
  have HM := Lib.hid hM
  have hN : n ≤ 4096 := by have := hM.n1; omega
  have hL := hM.len
  have hne : ordErr n L ≠ 2 := by rw [ordErr_ok hM]; split <;> simp
  obtain ⟨A, cap, rfl, hcap, -⟩ := hA
  have hmk := mkInts n hN
  have ht : (ordErr n L == 2) = false := by simpa using hne
  clear hM hne
  go_enter Tryz.func25, Tryz.ntmps25
  go_wp2_with (go_at_call 47; refine (check n _ L _ HA.out).mono ?_; rintro e w1 ⟨rfl, hb⟩; have B1 := Lib.hid hb; clear hb)
  clear hmk
  have A1 := Lib.hid (HA.out.below B1.out)
  go_loopw [16] (fun iv wr => SuRel n L w1 wr iv) (fun iv _ => L.length - (intOf iv).toNat)
  case atStart => exact ⟨0, rfl, by omega, (xi_start ((Below.refl _ _).alloc (Nat.le_refl _) _) (Nat.le_refl _) (heap_alloc_new w1 _) (by omega)).turn (fun v _ => by simp [supF, netF])⟩
  case round =>
    obtain ⟨k, rfl, hk, hX⟩ := hrel
    have X := Lib.hid hX
    have hgl := hX.gl
    have hbs := hX.below.size
    clear hX
    by_cases hlt : k < L.length
    · obtain ⟨A', cap', e, _, hA⟩ := A1.out
      simp only [Value.slice.injEq, true_and] at e
      obtain ⟨rfl, rfl⟩ := e
      obtain ⟨b, o, rfl, hb, hcell⟩ := hA (by omega)
      obtain ⟨c0, c1, c2⟩ := hcell k hlt
      have d0 := (X.out.below.cell (p := ⟨b, o + k * 3, none⟩) hb).trans c0
      have d1 := (X.out.below.cell (p := ⟨b, o + k * 3 + 1, none⟩) hb).trans c1
      have d2 := (X.out.below.cell (p := ⟨b, o + k * 3 + 2, none⟩) hb).trans c2
      have ok := HM.out.ok L[k] (List.getElem_mem hlt)
      have hst := fun v => supF_take L k hlt v
      have ST := Lib.hid hst
      clear hst hA hcell c0 c1 c2
      generalize L[k] = a at *
      obtain ⟨f, t, z⟩ := a
      obtain ⟨f, rfl⟩ : ∃ u : Nat, f = (u : Int) := ⟨f.toNat, by simp only at ok; omega⟩
      obtain ⟨t, rfl⟩ : ∃ u : Nat, t = (u : Int) := ⟨t.toNat, by simp only at ok; omega⟩
      simp only at ok d0 d1 d2 ST
      obtain ⟨ok0, ok1, ok2, ok3, ok4, ok5⟩ := ok
      have hf : f < n := by omega
      have ht : t < n := by omega
      have hpn := sup_near HM.out k f
      have hqn := sup_near HM.out k t
      obtain ⟨p, hp⟩ : ∃ p, supF (L.take k) f = p := ⟨_, rfl⟩
      have HP := Lib.hid hp
      rw [hp] at hpn
      obtain ⟨hp1, hp2⟩ := hpn
      obtain ⟨q, hq⟩ : ∃ q, (if t = f then p + z else supF (L.take k) t) = q := ⟨_, rfl⟩
      have HQ := Lib.hid hq
      have hq1 : -17000000000 ≤ q ∧ q ≤ 17000000000 := by rw [← hq]; split <;> omega
      obtain ⟨hq1, hq2⟩ := hq1
      have hw1 : IntKind.i64.wrap (p + z) = p + z := IntWalk.i64_in _ (by omega)
      have hw3 : IntKind.i64.wrap (q - z) = q - z := IntWalk.i64_in _ (by omega)
      clear hp hq hqn ok0 ok1 ok2 ok3
      go_wp2
      generalize hwa : World.alloc wr _ = wa
      have XA : Hid (XiAt w1 wa w1.heap.size n (fun v => supF (L.take k) v)) := Lib.hid (by rw [← hwa]; exact X.out.quiet ((Below.refl _ _).alloc (Nat.le_refl _) _))
      have hB : BoxA wa wr.heap.size f t z := by rw [← hwa]; exact BoxA.new _ _ _ _ _
      have HB := Lib.hid hB
      have x0 := XA.out.cell hf
      have x2 := XA.out.fr f
      (try simp only at x0)
      rw [HP.out] at x0
      have a0 := hB.c0
      have a1 := hB.c1
      have a2 := hB.c2
      have al := hB.lt
      have gl2 := XA.out.gl
      clear hwa hB hgl hbs d0 d1 d2
      go_still_tail 9, (by kernel_rfl)
      change wpList _ _ _ _ _ wa.drew
      go_wp2
      generalize hw2 : (World.setCell wa _ _).drew = w2
      have X2 : Hid (XiAt w1 w2 w1.heap.size n (fun v => if v = f then p + z else supF (L.take k) v)) := Lib.hid (by rw [← hw2]; exact (XA.out.set f (p + z)).quiet (Below.refl _ _).drew)
      have hB2 : BoxA w2 wr.heap.size f t z := by
        rw [← hw2]
        have o : Out (fun b => b = w1.heap.size) wa (World.setCell wa ⟨w1.heap.size, f, none⟩ (.int .i64 (p + z))).drew := ((Out.refl _ wa).setIn _ _).drew
        exact HB.out.out o (by have := X.out.gl; omega)
      clear hw2 x0 x2 gl2 a0 a1 a2 al
      have hgl2 := X2.out.gl
      have x0 := X2.out.cell ht
      have x2 := X2.out.fr t
      have a0 := hB2.c0
      have a1 := hB2.c1
      have a2 := hB2.c2
      have al := hB2.lt
      (try simp only at x0)
      rw [HQ.out] at x0
      refine wp_region_still_tail 9 (by kernel_rfl) (by kernel_rfl) ?_
      simp only [List.take_succ_cons, List.take_zero, List.drop_succ_cons, List.drop_zero]
      change wpStill _ _ (World.drew _) (fun a' => wpList _ _ _ _ a' (World.drew _)) _ _
      repeat still_step
      refine wpStill_nil ?_
      go_wp2
      go_roundw
      case rel =>
        refine ⟨k + 1, by go_num, by omega, ((X2.out.set t (q - z)).quiet (Below.refl _ _).drew).turn fun v _ => ?_⟩
        rw [ST.out, ← HQ.out, ← HP.out]
        unfold netP
        simp only
        by_cases e1 : v = t
        · by_cases e2 : v = f
          · subst e1 e2; simp
          · subst e1
            have : ¬ (f : Int) = (v : Int) := by omega
            simp [e2, this]
            omega
        · have e3 : ¬ (t : Int) = (v : Int) := by omega
          by_cases e2 : v = f
          · subst e2; simp [e1, e3]
          · have : ¬ (f : Int) = (v : Int) := by omega
            simp [e1, e2, e3, this]
      case measure => simp [intOf]; omega
    · obtain rfl : L.length = k := by omega
      go_wp2
      go_ret
      have h := X.out
      rw [List.take_length] at h
      have hz := B1.out.size
      refine ⟨_, rfl, hz, ⟨h.row.1, ?_⟩, B1.out.trans (h.below.mono hz)⟩
      rcases h.row.2 with ⟨e, _⟩ | ⟨g, cap, cur, hv, hg, r⟩
      · simp at e
      · exact Or.inr ⟨g, cap, cur, hv, Nat.le_trans hz hg, r⟩
set_option maxHeartbeats 1000000 in
theorem supplyNo (n : Int) (v : Value) (L : List Arc) (w : World) (hA : ArcsAt w v L) (hM : ¬ May n L) :
    Calls Tryz.prog 25 #[.int .i64 n, v] w fun e w' => e = .returned (.slice none 0 0) ∧ Below w.heap.size w w' := by
  have HA := Lib.hid hA
  have he : ordErr n L = 2 := by
    unfold ordErr
    rw [if_neg (fun h => hM ((mayB_iff n L).1 h))]
  have ht : (ordErr n L == 2) = true := by simpa using he
  obtain ⟨A, cap, rfl, hcap, -⟩ := hA
  clear hM he
  go_enter Tryz.func25, Tryz.ntmps25
  go_wp2_with (go_at_call 47; refine (check n _ L _ HA.out).mono ?_; rintro e w1 ⟨rfl, hb⟩; have B1 := Lib.hid hb; clear hb)
  go_ret
  exact ⟨rfl, B1.out⟩
theorem supplySpec : SupplySpec :=
  ⟨fun n v L w hA hM => (supplyOk n v L w hA hM).mono fun e w' ⟨g, h1, h2, h3, h4⟩ => ⟨_, h1, by
    unfold RowI at h3
    unfold OwnI
    rw [List.length_map, List.length_range, List.map_map]
    exact h3, h4⟩, supplyNo⟩
/-- Is something left? -/
def someLeft (lf : Nat → Int) (n : Nat) : Bool := (List.range n).any fun v => decide (0 < lf v)
set_option maxHeartbeats 1000000 in
theorem leftClos (x : Int) (w : World) : Calls Tryz.prog 49 #[.int .i64 x] w fun e w' => e = .returned (.bool (decide (0 < x))) ∧ w = w' := by
  go_enter Tryz.func49, Tryz.ntmps49
  go_wp2
  go_ret
  exact ⟨rfl, rfl⟩
set_option maxHeartbeats 2000000 in
theorem indexLeft {B g n : Nat} {lf : Nat → Int} {w : World} (hR : RowI w B g n lf) (hn : n ≤ 4096) :
    Calls Tryz.prog 68 #[.slice (some ⟨g, 0, none⟩) n n, .func (.func 49) #[] #[]] w (Idx (someLeft lf n) w) := by
  have eg := enters_of Tryz.func49 (by kernel_rfl) rfl
  have HR := Lib.hid hR
  have hgl := hR.gl.2
  clear hR
  go_enter Tryz.func68, Tryz.ntmps68
  go_wp2
  go_loopw [8] (fun iv wr => IdxAt n (fun k => someLeft lf k) w wr iv) (fun iv _ => n - (intOf iv).toNat)
  case atStart => exact ⟨0, rfl, by omega, Below.refl _ _, rfl⟩
  case round =>
    obtain ⟨k, rfl, hk, hB, hN⟩ := hrel
    have B := Lib.hid hB
    have N := Lib.hid hN
    clear hB hN
    by_cases hlt : k < n
    · have d0 := (B.out.cell (p := ⟨g, k, none⟩) hgl).trans (HR.out.cell hlt)
      have ht : someLeft lf (k + 1) = (someLeft lf k || decide (0 < lf k)) := by
        unfold someLeft
        rw [List.range_succ, List.any_append]
        simp
      have hf : 0 < lf k → someLeft lf n = true := fun h => List.any_eq_true.2 ⟨k, by simpa using hlt, by simpa using h⟩
      have HT := Lib.hid ht
      have HF := Lib.hid hf
      have hz := B.out.size
      clear ht hf
      (try simp only at d0)
      generalize lf k = c at *
      by_cases hc : 0 < c
      · have t1 : decide (0 < c) = true := by simpa using hc
        have HC := Lib.hid hc
        clear hc
        go_wp2_with (first
          | (go_at_fn 49; refine (leftClos c _).mono ?_; rintro e w1 ⟨rfl, rfl⟩)
          | (go_at_call 49; refine (leftClos c _).mono ?_; rintro e w1 ⟨rfl, rfl⟩))
        go_ret
        exact ⟨k, rfl, by rw [HF.out HC.out]; simp, B.out⟩
      · have t1 : decide (0 < c) = false := by simpa using hc
        clear hc
        go_wp2_with (first
          | (go_at_fn 49; refine (leftClos c _).mono ?_; rintro e w1 ⟨rfl, rfl⟩)
          | (go_at_call 49; refine (leftClos c _).mono ?_; rintro e w1 ⟨rfl, rfl⟩))
        go_roundw
        case rel => exact ⟨k + 1, by go_num, by omega, B.out, by simp only []; rw [HT.out, N.out, t1]; rfl⟩
        case measure => simp [intOf]; omega
    · obtain rfl : n = k := by omega
      go_wp2
      go_ret
      exact ⟨-1, rfl, by rw [N.out]; rfl, B.out⟩
set_option maxHeartbeats 1000000 in
theorem containsLeft {B g n : Nat} {lf : Nat → Int} {w : World} (hR : RowI w B g n lf) (hn : n ≤ 4096) :
    Calls Tryz.prog 48 #[.slice (some ⟨g, 0, none⟩) n n, .func (.func 49) #[] #[]] w fun e w' => e = .returned (.bool (someLeft lf n)) ∧ Below w.heap.size w w' := by
  have I := indexLeft hR hn
  clear hR hn
  go_enter Tryz.func48, Tryz.ntmps48
  go_wp2_with (go_at_call 68; refine I.mono ?_; rintro e w1 ⟨i, rfl, hi, b1⟩; have HI := Lib.hid hi; have B1 := Lib.hid b1; clear hi b1)
  go_ret
  exact ⟨ret_bool HI.out, B1.out⟩
theorem someLeft_no {lf : Nat → Int} {n : Nat} (h : someLeft lf n = false) : ∀ v, v < n → ¬ 0 < lf v := by
  intro v hv hl
  have : someLeft lf n = true := List.any_eq_true.2 ⟨v, by simpa using hv, by simpa using hl⟩
  rw [h] at this; cases this
theorem someLeft_yes {lf : Nat → Int} {n : Nat} (h : someLeft lf n = true) : ∃ v, v < n ∧ 0 < lf v := by
  obtain ⟨v, hv, hl⟩ := List.any_eq_true.1 h
  exact ⟨v, by simpa using hv, by simpa using hl⟩
end Go.Proofs.YtdpacaomkahgfaaGreatDoor

namespace Go.Proofs.YtdpacaomkahgfaaGreatDoor
open Go.RowKit Go.Proofs.YtdpacaomkahgfaaGreatDoor.DagM

/-- A round: its block at r, the distances at gd, the steps tried at gt; all of it from T on. -/
structure RoundAt (w0 w : World) (T p gx gf gl gs n : Nat) (E : EndL) (V : Nat → Value) (x f lf : Nat → Int) (tk : Int) (r gd gt : Nat) (far : Nat → Dst) (tr : Nat → Nat) : Prop where
  net : NetAt w0 w T p gx gf gl gs n E.length V (stps E) x f lf tk
  blk : w.heap[r]? = some (.cells #[.pointer (some ⟨p, 0, none⟩), .slice (some ⟨gd, 0, none⟩) n n, .slice (some ⟨gt, 0, none⟩) n n] 134 (0, 0))
  rT : T ≤ r
  rd : RowD w T gd n far
  rt : RowI w T gt n fun v => (tr v : Int)
section
variable {w0 w w' : World} {T p gx gf gl gs n r gd gt : Nat} {E : EndL} {V : Nat → Value} {x f lf : Nat → Int} {tk : Int} {far : Nat → Dst} {tr : Nat → Nat} {S : Nat → Prop}
theorem RoundAt.rl (h : RoundAt w0 w T p gx gf gl gs n E V x f lf tk r gd gt far tr) : r < w.heap.size := (Array.getElem?_eq_some_iff.1 h.blk).1
theorem RoundAt.quiet (h : RoundAt w0 w T p gx gf gl gs n E V x f lf tk r gd gt far tr) (o : Below w.heap.size w w') : RoundAt w0 w' T p gx gf gl gs n E V x f lf tk r gd gt far tr :=
  ⟨h.net.quiet o, by rw [o.block r h.rl]; exact h.blk, h.rT, ownsRow_out (S := fun _ => False) h.rd (Out.ofBelow o) (fun _ _ e => e), ownsRow_out (S := fun _ => False) h.rt (Out.ofBelow o) (fun _ _ e => e)⟩
theorem RoundAt.c0 (h : RoundAt w0 w T p gx gf gl gs n E V x f lf tk r gd gt far tr) : w.cell? ⟨r, 0, none⟩ = some (.pointer (some ⟨p, 0, none⟩)) := by simp [World.cell?, h.blk]
theorem RoundAt.c1 (h : RoundAt w0 w T p gx gf gl gs n E V x f lf tk r gd gt far tr) : w.cell? ⟨r, 1, none⟩ = some (.slice (some ⟨gd, 0, none⟩) n n) := by simp [World.cell?, h.blk]
theorem RoundAt.c2 (h : RoundAt w0 w T p gx gf gl gs n E V x f lf tk r gd gt far tr) : w.cell? ⟨r, 2, none⟩ = some (.slice (some ⟨gt, 0, none⟩) n n) := by simp [World.cell?, h.blk]
theorem RoundAt.away (h : RoundAt w0 w T p gx gf gl gs n E V x f lf tk r gd gt far tr) (o : Out S w w') (hS : ∀ b, S b → b ≠ r ∧ b ≠ gd ∧ b ≠ gt ∧ T ≤ b) : RoundAt w0 w' T p gx gf gl gs n E V x f lf tk r gd gt far tr := by
  refine ⟨h.net.far o (fun b _ e => (hS b e).2.2.2), by rw [o.block r h.rl (fun e => (hS r e).1 rfl)]; exact h.blk, h.rT, ownsRow_out h.rd o (fun b hb e => ?_), ownsRow_out h.rt o (fun b hb e => ?_)⟩
  · simp only [Value.ownBlock, Option.some.injEq] at hb; exact (hS b e).2.1 hb.symm
  · simp only [Value.ownBlock, Option.some.injEq] at hb; exact (hS b e).2.2.1 hb.symm
/-- Another step is tried. -/
theorem RoundAt.tried (h : RoundAt w0 w T p gx gf gl gs n E V x f lf tk r gd gt far tr) (v t : Nat) : RoundAt w0 (w.setCell ⟨gt, v, none⟩ (.int .i64 (t : Int))) T p gx gf gl gs n E V x f lf tk r gd gt far (fun u => if u = v then t else tr u) := by
  have o : Out (fun b => b = gt) w (w.setCell ⟨gt, v, none⟩ (.int .i64 (t : Int))) := Out.setCell (S := fun b => b = gt) (Out.refl _ w) (p := ⟨gt, v, none⟩) (fun _ => rfl) _
  have hg := h.rt.gl
  refine ⟨h.net.far o (fun b _ e => by subst e; exact hg.1), ?_, h.rT, ownsRow_out h.rd o (fun b hb e => ?_), ?_⟩
  · rw [o.block r h.rl (fun e => blk_ne h.rt h.blk (by decide) (by rw [e]; rfl))]
    exact h.blk
  · subst e; exact rows_ne h.rd h.rt (by decide) hb rfl
  · have := h.rt.set v (t : Int)
    exact this.turn (fun u _ => by by_cases e : u = v <;> simp [e])
/-- What flows, what is left, how often: of the network alone. -/
theorem RoundAt.net2 {f' lf' : Nat → Int} {tk' : Int} (h : RoundAt w0 w T p gx gf gl gs n E V x f lf tk r gd gt far tr) (o : Out S w w') (hS : ∀ b, S b → b < T) (k : NetAt w0 w' T p gx gf gl gs n E.length V (stps E) x f' lf' tk') : RoundAt w0 w' T p gx gf gl gs n E V x f' lf' tk' r gd gt far tr := by
  have hr := h.rT
  refine ⟨k, ?_, hr, ownsRow_out h.rd o (fun b hb e => ?_), ownsRow_out h.rt o (fun b hb e => ?_)⟩
  · rw [o.block r h.rl (fun e => by have := hS r e; omega)]
    exact h.blk
  · have := hS b e; have := (World.ownsRow.lt h.rd b hb).1; omega
  · have := hS b e; have := (World.ownsRow.lt h.rt b hb).1; omega
theorem stpA_len (v i : Nat) (e : Nat × Nat) : (stpA v i e).length ≤ 2 := by
  unfold stpA
  split <;> split <;> simp
theorem stps_len (E : EndL) (v : Nat) : (stps E v).length ≤ 2 * E.length := by
  have : ∀ k, (stpsK E k v).length ≤ 2 * k := by
    intro k
    induction k with
    | zero => simp [stpsK]
    | succ k ih => rw [stpsK_succ, List.length_append]; have := stpA_len v k (E.getD k (0, 0)); omega
  exact this _
end

theorem cells4 {w : World} {b : Nat} {a0 a1 a2 a3 c0 c1 c2 c3 : Value} {t : TypeId} (h : w.heap[b]? = some (.cells #[a0, a1, a2, a3] t (0, 0))) :
    ((((w.setCell ⟨b, 0, none⟩ c0).setCell ⟨b, 1, none⟩ c1).setCell ⟨b, 2, none⟩ c2).setCell ⟨b, 3, none⟩ c3).heap[b]? = some (.cells #[c0, c1, c2, c3] t (0, 0)) := by
  rw [heap_setCell_at (heap_setCell_at (heap_setCell_at (heap_setCell_at h 0 c0) 1 c1) 2 c2) 3 c3]
  rfl
theorem out4 {S : Nat → Prop} {w0 w : World} {b : Nat} (h : Out S w0 w) (hb : w0.heap.size ≤ b) (c0 c1 c2 c3 : Value) : Out S w0 ((((w.setCell ⟨b, 0, none⟩ c0).setCell ⟨b, 1, none⟩ c1).setCell ⟨b, 2, none⟩ c2).setCell ⟨b, 3, none⟩ c3) := by
  have k : ∀ j : Nat, (⟨b, j, none⟩ : Addr).block < w0.heap.size → S (⟨b, j, none⟩ : Addr).block := fun j hj => absurd hj (by simp only; omega)
  exact Out.setCell (Out.setCell (Out.setCell (Out.setCell h (k 0) _) (k 1) _) (k 2) _) (k 3) _
noncomputable def trOf (w : World) (gt v : Nat) : Nat := Classical.epsilon fun k : Nat => w.cell? ⟨gt, v, none⟩ = some (.int .i64 (k : Int))
theorem trOf_eq {w : World} {gt v t : Nat} (h : w.cell? ⟨gt, v, none⟩ = some (.int .i64 (t : Int))) : trOf w gt v = t := by
  have h2 : w.cell? ⟨gt, v, none⟩ = some (.int .i64 ((trOf w gt v : Nat) : Int)) := Classical.epsilon_spec (p := fun k : Nat => w.cell? ⟨gt, v, none⟩ = some (.int .i64 (k : Int))) ⟨t, h⟩
  rw [h] at h2
  simp only [Option.some.injEq, Value.int.injEq, true_and] at h2
  omega
def NxR (w0 w : World) (T p gx gf gl gs n : Nat) (E : EndL) (V : Nat → Value) (x f lf : Nat → Int) (tk : Int) (r gd gt : Nat) (far : Nat → Dst) (tr : Nat → Nat) (v B : Nat) (wr : World) (bv : Value) : Prop :=
  bv = .bool false ∧ ∃ t, tr v ≤ t ∧ t ≤ (stps E v).length ∧ (∀ i, tr v ≤ i → i < t → ∀ s, (stps E v)[i]? = some s → adm x f far s = false) ∧ RoundAt w0 wr T p gx gf gl gs n E V x f lf tk r gd gt far (fun u => if u = v then t else tr u) ∧ Out (fun b => b = gt) w wr ∧
    wr.heap[B]? = some (.cells #[.int .i64 0, .int .i64 0, .int .i64 0, .int .i64 0] 102 (0, 0))
/-- What next leaves. -/
def Nexted (w0 w : World) (T p gx gf gl gs n : Nat) (E : EndL) (V : Nat → Value) (x f lf : Nat → Int) (tk : Int) (r gd gt : Nat) (far : Nat → Dst) (tr : Nat → Nat) (v : Nat) (e : Ending) (w' : World) : Prop :=
  ∃ t, tr v ≤ t ∧ (∀ i, tr v ≤ i → i < t → ∀ s, (stps E v)[i]? = some s → adm x f far s = false) ∧ RoundAt w0 w' T p gx gf gl gs n E V x f lf tk r gd gt far (fun u => if u = v then t else tr u) ∧ Out (fun b => b = gt) w w' ∧
    ((∃ s, e = .returned (.tuple #[stpV s, .bool true]) ∧ (stps E v)[t]? = some s ∧ adm x f far s = true) ∨ (e = .returned (.tuple #[stpV (0, 0, 0, 0), .bool false]) ∧ t = (stps E v).length))

theorem nx_step {w0 w w5 : World} {T p gx gf gl gs n r gd gt B : Nat} {E : EndL} {V : Nat → Value} {x f lf : Nat → Int} {tk : Int} {far : Nat → Dst} {tr : Nat → Nat} {v t : Nat} {s : Stp}
    (R5 : RoundAt w0 w5 T p gx gf gl gs n E V x f lf tk r gd gt far (fun u => if u = v then t else tr u)) (O5 : Out (fun b => b = gt) w w5) (C5 : w5.heap[B]? = some (.cells #[.int .i64 0, .int .i64 0, .int .i64 0, .int .i64 0] 102 (0, 0)))
    (hB : B ≠ gt) (ht : tr v ≤ t) (hlt : t < (stps E v).length) (NO : ∀ i, tr v ≤ i → i < t → ∀ s, (stps E v)[i]? = some s → adm x f far s = false) (SQ : (stps E v)[t]? = some s) (AD : adm x f far s = false) :
    NxR w0 w T p gx gf gl gs n E V x f lf tk r gd gt far tr v B (w5.setCell ⟨gt, v, none⟩ (.int .i64 ((t : Int) + 1))) (.bool false) := by
  have h5 := R5.tried v (t + 1)
  have e5 : (fun u => if u = v then t + 1 else if u = v then t else tr u) = fun u => if u = v then t + 1 else tr u := by funext u; by_cases e : u = v <;> simp [e]
  rw [e5] at h5
  push_cast at h5
  refine ⟨rfl, t + 1, by omega, by omega, fun i h1 h2 s' hs' => ?_, h5, O5.setIn _ _, ?_⟩
  · by_cases e : i = t
    · subst e
      rw [SQ] at hs'
      simp only [Option.some.injEq] at hs'
      subst hs'
      exact AD
    · exact NO i h1 (by omega) s' hs'
  · rw [Below.heap_setCell _ _ _ _ hB]
    exact C5
theorem nx_less {w0 w5 wr : World} {T p gx gf gl gs n r gd gt dg : Nat} {E : EndL} {V : Nat → Value} {x f lf : Nat → Int} {tk : Int} {far : Nat → Dst} {tr : Nat → Nat} {v t : Nat}
    (R5 : RoundAt w0 w5 T p gx gf gl gs n E V x f lf tk r gd gt far (fun u => if u = v then t else tr u)) (hv : v < n) (hlt : t < dg) (ME : trOf wr gt v = t) :
    dg - trOf (w5.setCell ⟨gt, v, none⟩ (.int .i64 ((t : Int) + 1))) gt v < dg - trOf wr gt v := by
  have h5 := (R5.tried v (t + 1)).rt.cell hv
  simp only [if_true] at h5
  push_cast at h5
  have e5 : trOf (w5.setCell ⟨gt, v, none⟩ (.int .i64 ((t : Int) + 1))) gt v = t + 1 := trOf_eq (by rw [h5]; simp)
  rw [e5, ME]
  omega

/-- What is to be shown of next. -/
def NextSpec : Prop := ∀ {w0 w : World} {T p gx gf gl gs n r gd gt : Nat} {E : EndL} {V : Nat → Value} {x f lf : Nat → Int} {tk : Int} {far : Nat → Dst} {tr : Nat → Nat} {v : Nat}
    (_h : RoundAt w0 w T p gx gf gl gs n E V x f lf tk r gd gt far tr) (_hF : Fits E n x f) (_hn : n ≤ 4096) (_hm : E.length ≤ 16384) (_hx : ∀ v, v < n → -8192 ≤ x v ∧ x v ≤ 4096) (_hv : v < n) (_hfv : 0 ≤ (far v).2 ∧ (far v).2 ≤ 4096) (_ht : tr v ≤ (stps E v).length),
    Calls Tryz.prog 103 #[.pointer (some ⟨r, 0, none⟩), .int .i64 (v : Int)] w (Nexted w0 w T p gx gf gl gs n E V x f lf tk r gd gt far tr v)
end Go.Proofs.YtdpacaomkahgfaaGreatDoor
