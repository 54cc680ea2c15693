/-
  A row of ints told by a function; the reference's Supply, Right, Total and Sum. Conditions: the graph may be; a flow's sum is within 10^15.
  What Solve and Supply are asked to leave. Conditions: none.
-/
import Derived.Test.YtappfojjjegnpaaGreatDoorCqE
import Derived.Test.YtappfojjjegnpaaGreatDoorCqW
import Derived.Test.YtappfojjjegnpaaGreatDoorCqM
import Derived.StillTailTactics
import Derived.IntWalk
namespace Go.Proofs.YtappfojjjegnpaaGreatDoor
open Go.RowKit Go.Proofs.YtappfojjjegnpaaGreatDoor.DagM

/-- The ints s of n nodes, in a row of the call's own at g. -/
structure XiAt (w0 w : World) (g n : Nat) (s : Nat → Int) : Prop where
  below : Below w0.heap.size w0 w
  g0 : w0.heap.size ≤ g
  row : w.ownsRow w0.heap.size 3 1 (.slice (some ⟨g, 0, none⟩) n n) n ((List.range n).map fun v => encInt (s v))
section
variable {w0 w w' : World} {g n : Nat} {s : Nat → Int}
theorem XiAt.gl (h : XiAt w0 w g n s) : g < w.heap.size := (h.row.lt g rfl).2
theorem XiAt.quiet (h : XiAt w0 w g n s) (o : Below w.heap.size w w') : XiAt w0 w' g n s :=
  ⟨h.below.trans (o.mono h.below.size), h.g0, ownsRow_out (S := fun _ => False) h.row (Out.ofBelow o) (fun _ _ e => e)⟩
theorem XiAt.set (h : XiAt w0 w g n s) (t : Nat) (d : Int) : XiAt w0 (w.setCell ⟨g, t, none⟩ (.int .i64 d)) g n (fun v => if v = t then d else s v) := by
  have o2 : Out (fun b => b = g) w (w.setCell ⟨g, t, none⟩ (.int .i64 d)) := Out.setCell (S := fun b => b = g) (Out.refl _ w) (p := ⟨g, t, none⟩) (fun _ => rfl) _
  refine ⟨h.below.trans (o2.below h.below.size (fun i _ e => by subst e; exact h.g0)), h.g0, ?_⟩
  have e : ((List.range n).map fun v => encInt (if v = t then d else s v)) = ((List.range n).map fun v => encInt (s v)).set t (.int .i64 d) := by
    rw [← map_set]
    exact List.map_congr_left (fun v _ => by by_cases e : v = t <;> simp [e, encInt])
  rw [e]
  exact (h.row.stored t _).1
theorem XiAt.cell (h : XiAt w0 w g n s) {v : Nat} (hv : v < n) : w.cell? ⟨g, v, none⟩ = some (.int .i64 (s v)) := by
  rw [h.row.cellAt v (by simpa using hv)]
  simp [hv, encInt]
theorem XiAt.fr (h : XiAt w0 w g n s) (v : Nat) : w.frozen? ⟨g, v, none⟩ = false := h.row.frozenAt v
theorem XiAt.own (h : XiAt w0 w g n s) : OwnI w w0.heap.size (.slice (some ⟨g, 0, none⟩) n n) ((List.range n).map s) := by
  have := h.row
  unfold OwnI
  rw [List.length_map, List.length_range, List.map_map]
  exact this
theorem XiAt.turn {s' : Nat → Int} (h : XiAt w0 w g n s) (e : ∀ v, v < n → s v = s' v) : XiAt w0 w g n s' := by
  refine ⟨h.below, h.g0, ?_⟩
  have e2 : ((List.range n).map fun v => encInt (s' v)) = (List.range n).map fun v => encInt (s v) := List.map_congr_left (fun v hv => by rw [e v (by simpa using hv)])
  rw [e2]
  exact h.row
theorem xi_start (hb : Below w0.heap.size w0 w) (hg : w0.heap.size ≤ g) (h1 : w.heap[g]? = some (.cells (madeCells #[.int .i64 0] n) 3 (0, 0))) (hN : n ≤ 1000000) : XiAt w0 w g n (fun _ => 0) := by
  refine ⟨hb, hg, ⟨by simp, Or.inr ⟨g, n, _, rfl, hg, h1, Nat.le_refl _, by unfold maxLen; omega, by simp [size_madeCells], ?_⟩⟩⟩
  rw [toList_madeCells_one, made_map, List.take_of_length_le (by simp)]
  rfl
end
def Supplied (n : Nat) (L : List Arc) (w : World) (e : Ending) (w' : World) : Prop := ∃ g, e = .returned (.slice (some ⟨g, 0, none⟩) n n) ∧ XiAt w w' g n (fun v => supF L v)
def SuRel (n : Nat) (L : List Arc) (w wr : World) (iv : Value) : Prop := ∃ k : Nat, iv = .int .i64 k ∧ k ≤ L.length ∧ XiAt w wr w.heap.size n (fun v => supF (L.take k) v)


def RgRel (n : Nat) (L : List Arc) (f : List Int) (g : Nat) (w wr : World) (iv : Value) : Prop := ∃ k : Nat, iv = .int .i64 k ∧ k ≤ L.length ∧ XiAt w wr g n (fun v => supF L v - netF (L.take k) (f.take k) v)
def RzRel (n : Nat) (w wr : World) (iv : Value) : Prop := ∃ k : Nat, iv = .int .i64 k ∧ k ≤ n ∧ wr = w


def TtRel (n : Nat) (L : List Arc) (w wr : World) (sv iv : Value) : Prop := ∃ k : Nat, iv = .int .i64 k ∧ k ≤ n ∧ sv = .int .i64 ((List.range k).map fun (v : Nat) => max 0 (supF L v)).sum ∧ 0 ≤ ((List.range k).map fun (v : Nat) => max 0 (supF L v)).sum ∧ ((List.range k).map fun (v : Nat) => max 0 (supF L v)).sum ≤ 16384000000 * (k : Int) ∧ wr = w


def SmRel (f : List Int) (sv iv : Value) : Prop := ∃ k : Nat, iv = .int .i64 k ∧ k ≤ f.length ∧ sv = .int .i64 (f.take k).sum

end Go.Proofs.YtappfojjjegnpaaGreatDoor

namespace Go.Proofs.YtappfojjjegnpaaGreatDoor
open Go.RowKit Go.Proofs.YtappfojjjegnpaaGreatDoor.DagM


def SolveNo (n : Int) (L : List Arc) (w : World) (e : Ending) (w' : World) : Prop :=
  e = .returned (.tuple #[.agg #[.slice none 0 0, .slice none 0 0, .int .i64 0], .int .i64 (ordErr n L)]) ∧ Below w.heap.size w w'

def SuppOk (n : Nat) (L : List Arc) (w : World) (e : Ending) (w' : World) : Prop := ∃ v, e = .returned v ∧ OwnI w' w.heap.size v ((List.range n).map fun (u : Nat) => supF L u) ∧ Below w.heap.size w w'
structure SupplySpec : Prop where
  ok : ∀ (n : Nat) (v : Value) (L : List Arc) (w : World), ArcsAt w v L → May n L → Calls Tryz.prog 42 #[.int .i64 n, v] w (SuppOk n L w)
  no : ∀ (n : Int) (v : Value) (L : List Arc) (w : World), ArcsAt w v L → ¬ May n L → Calls Tryz.prog 42 #[.int .i64 n, v] w fun e w' => e = .returned (.slice none 0 0) ∧ Below w.heap.size w w'
end Go.Proofs.YtappfojjjegnpaaGreatDoor
