/-
  Costs in plain mathematics: what coordinates cost, when they fit, errors. Conditions: none.
-/
import Derived.Test.YtkloaekmjnbacaaDagM
namespace Go.Proofs.Ytkloaekmjnbacaa.DagM

def ordErr (n : Int) (L : List Arc) : Int := if mayB n L then (if (topo (ends L) n.toNat).length < n.toNat then 11 else 0) else 2
def ordRes (n : Int) (L : List Arc) : List Nat := if mayB n L then (if (topo (ends L) n.toNat).length < n.toNat then [] else topo (ends L) n.toNat) else []
theorem ordErr_ok {n : Int} {L : List Arc} (h : May n L) : ordErr n L = if (topo (ends L) n.toNat).length < n.toNat then 11 else 0 := by
  unfold ordErr
  rw [if_pos ((mayB_iff n L).2 h)]
theorem ordErr_may {n : Int} {L : List Arc} (h : ordErr n L = 0) : May n L := by
  unfold ordErr at h
  by_cases e : mayB n L = true
  · exact (mayB_iff n L).1 e
  · rw [if_neg e] at h; omega
theorem ordErr_range (n : Int) (L : List Arc) : 0 ≤ ordErr n L ∧ ordErr n L ≤ 11 := by
  unfold ordErr
  split
  · split <;> omega
  · omega
/-- Where a number rises along each arc, the order is whole. -/
theorem ord_rises {n : Int} {L : List Arc} (h : May n L) (x : Nat → Int) (hx : ∀ a ∈ L, x a.1.toNat < x a.2.1.toNat) : ordErr n L = 0 := by
  rw [ordErr_ok h]
  have := topo_rises (E := ends L) (n := n.toNat) x (fun e he => by
    obtain ⟨a, ha, rfl⟩ := List.mem_map.1 he
    have := h.ok a ha
    exact ⟨by simp only; omega, hx a ha⟩)
  rw [if_neg (by omega)]

/-- The number of node i. -/
def val (x : List Int) (i : Int) : Int := x.getD i.toNat 0
def fitA (x : List Int) (a : Arc) : Bool := decide (val x a.1 < val x a.2.1)
def fitB (x : List Int) (L : List Arc) : Bool := L.all (fitA x)
def costA (x : List Int) (a : Arc) : Int := a.2.2 * (val x a.2.1 - val x a.1)
def costSum (x : List Int) (L : List Arc) : Int := (L.map (costA x)).sum
def far (v : Int) : Bool := decide (v < -1000000) || decide (1000000 < v)
def coordB (n : Int) (x : List Int) : Bool := decide ((x.length : Int) = n) && !x.any far
def costErr (n : Int) (L : List Arc) (x : List Int) : Int := if ordErr n L = 0 then (if coordB n x then (if fitB x L then 0 else 15) else 2) else ordErr n L
def costVal (n : Int) (L : List Arc) (x : List Int) : Int := if costErr n L x = 0 then costSum x L else 0
theorem costSum_snoc (x : List Int) (L : List Arc) (k : Nat) (h : k < L.length) : costSum x (L.take (k + 1)) = costSum x (L.take k) + costA x L[k] := by
  unfold costSum
  rw [List.take_succ_eq_append_getElem h, List.map_append, List.sum_append]
  simp
theorem fit_snoc (x : List Int) (L : List Arc) (k : Nat) (h : k < L.length) : fitB x (L.take (k + 1)) = (fitB x (L.take k) && fitA x L[k]) := by
  unfold fitB
  rw [List.take_succ_eq_append_getElem h, List.all_append]
  simp
theorem fit_not (x : List Int) (L : List Arc) (k : Nat) (h : k < L.length) (hf : fitA x L[k] = false) : fitB x L = false := by
  unfold fitB
  rw [List.all_eq_false]
  exact ⟨L[k], List.getElem_mem h, by simp [hf]⟩
theorem val_near {n : Int} {x : List Int} (h : coordB n x = true) (i : Int) (h0 : 0 ≤ i) (h1 : i < n) : -1000000 ≤ val x i ∧ val x i ≤ 1000000 ∧ i.toNat < x.length := by
  unfold coordB at h
  simp only [Bool.and_eq_true, decide_eq_true_eq, Bool.not_eq_true', List.any_eq_false] at h
  have hl : i.toNat < x.length := by omega
  have := h.2 x[i.toNat] (List.getElem_mem hl)
  simp only [far, Bool.or_eq_true, decide_eq_true_eq, not_or] at this
  have e : val x i = x[i.toNat] := by simp [val, List.getD_eq_getElem?_getD, hl]
  rw [e]
  omega
theorem mul_near {z d : Int} (h0 : 0 ≤ z) (h1 : z ≤ 1000000) (d0 : 0 ≤ d) (d1 : d ≤ 2000000) : 0 ≤ z * d ∧ z * d ≤ 2000000000000 := by
  refine ⟨Int.mul_nonneg h0 d0, ?_⟩
  have := Int.mul_le_mul h1 d1 d0 (by omega)
  omega
end Go.Proofs.Ytkloaekmjnbacaa.DagM
