/-
  What the reference's Check tells of coordinates and a flow is what the program's does. Conditions: at most 900 arcs.
-/
import Derived.Test.YtappfojjjegnpaaGreatDoorCtC
namespace Go.Proofs.YtappfojjjegnpaaGreatDoor
open Go.RowKit Go.Proofs.YtappfojjjegnpaaGreatDoor.DagM

theorem cert_of_cost {n : Nat} {L : List Arc} {x f : List Int} {z : Int} (h : costErr n L x = z) (hz : z ≠ 0) : certErr n L x f = z := by rw [cert_no (by rw [h]; exact hz), h]
theorem cost_ord {n : Nat} {L : List Arc} {x : List Int} (h : ordErr n L ≠ 0) : costErr n L x = ordErr n L := by unfold costErr; rw [if_neg h]
theorem cost_coord {n : Nat} {L : List Arc} {x : List Int} (h : ordErr n L = 0) (h2 : coordB n x = false) : costErr n L x = 2 := by unfold costErr; rw [if_pos h, h2]; rfl
theorem cost_fit {n : Nat} {L : List Arc} {x : List Int} (h : ordErr n L = 0) (h2 : coordB n x = true) (h3 : fitB x L = false) : costErr n L x = 15 := by unfold costErr; rw [if_pos h, if_pos h2, h3]; rfl
theorem coord_len {n : Nat} {x : List Int} (h : x.length ≠ n) : coordB n x = false := by unfold coordB; rw [decide_eq_false (by omega)]; rfl
theorem coord_far {n : Nat} {x : List Int} (h : x.any far = true) : coordB n x = false := by unfold coordB; rw [h]; simp
theorem coord_yes {n : Nat} {x : List Int} (hl : x.length = n) (h : x.any far = false) : coordB n x = true := by unfold coordB; rw [h, decide_eq_true (by omega)]; rfl
theorem flow_len {L : List Arc} {f : List Int} (h : f.length ≠ L.length) : flowB L f = false := by unfold flowB; rw [decide_eq_false h]; rfl
theorem flow_bad {L : List Arc} {f : List Int} (h : f.any flowNo = true) : flowB L f = false := by unfold flowB; rw [h]; simp
theorem flow_yes {L : List Arc} {f : List Int} (hl : f.length = L.length) (h : f.any flowNo = false) : flowB L f = true := by unfold flowB; rw [h, decide_eq_true hl]; rfl

def RxRel (x : List Int) (p : Int → Bool) (w wr : World) (iv : Value) : Prop := ∃ k : Nat, iv = .int .i64 k ∧ k ≤ x.length ∧ (x.take k).any p = false ∧ wr = w

end Go.Proofs.YtappfojjjegnpaaGreatDoor
