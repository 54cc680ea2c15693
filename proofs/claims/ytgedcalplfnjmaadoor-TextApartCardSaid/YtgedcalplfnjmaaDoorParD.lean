/-
  What is read so far, in memory; addVertices. Conditions: texts of at most 2000000 bytes.
-/
import Derived.Test.YtgedcalplfnjmaaDoorParC
namespace Go.Proofs.YtgedcalplfnjmaaDoor
open Go.RowKit Go.Proofs.YtgedcalplfnjmaaDoor.LexM Go.Proofs.YtgedcalplfnjmaaDoor.ParM

theorem own_kind {w : World} {B k n p : Nat} {e T : TypeId} {v : Value} {xs : List Value} {cur : Array Value} {fz : Nat × Nat} (h : w.ownsRow B e k v n xs) (hp : w.heap[p]? = some (.cells cur T fz)) (hT : T ≠ e) : v.ownBlock ≠ some p := by
  intro hc
  rcases h.2 with ⟨rfl, _⟩ | ⟨g, cap, c2, rfl, _, hg, _⟩
  · cases hc
  · have : g = p := by simpa [Value.ownBlock] using hc
    subst this; rw [hg] at hp
    simp only [Option.some.injEq, Obj.cells.injEq] at hp
    exact hT hp.2.1.symm
theorem own_base {w : World} {B C k n : Nat} {e : TypeId} {v : Value} {xs : List Value} (h : w.ownsRow B e k v n xs) (hC : C ≤ B) : w.ownsRow C e k v n xs := by
  refine ⟨h.1, ?_⟩
  rcases h.2 with q | ⟨g, cap, cur, hv, hg, r⟩
  · exact Or.inl q
  · exact Or.inr ⟨g, cap, cur, hv, by omega, r⟩




section
variable {w0 w w' : World} {p : Nat} {bg en : Bool} {bv ev : Value} {B : List Bool} {E : List Edg} {b : Nat}






theorem below_set (hb : Below w0.heap.size w0 w) (hp : w0.heap.size ≤ p) (j : Nat) (u : Value) : Below w0.heap.size w0 (w.setCell ⟨p, j, none⟩ u) :=
  hb.trans ((((Out.refl (fun x => x = p) w).setIn j u).below hb.size (fun i _ e => by omega)))





end

theorem fst_bad {l : List UInt8} (h : (wdL l).length ≠ 2) : fstE l = 4 := by
  unfold fstE
  split
  · rename_i e; rw [e] at h; simp at h
  · rfl
theorem fst_two {l a p : List UInt8} (h : wdL l = [a, p]) : fstE l = (if a = shapeW then fstW p else 4) ∧ fstB l = (if a = shapeW ∧ fstW p = 0 then fstV p else []) := by
  unfold fstE fstB; rw [h]; exact ⟨rfl, rfl⟩
theorem fstW_bx {p : List UInt8} : fstW p = (if isBx p = true then (if 4096 < (bxV p).length then 6 else 0) else 4) ∧ (isBx p = true → fstV p = bxV p) := by
  unfold fstW isBx bxV fstV
  by_cases h : p = [45]
  · rw [if_pos h, if_pos h, if_pos h, decide_eq_true h]; exact ⟨rfl, fun _ => rfl⟩
  · rw [if_neg h, if_neg h, if_neg h, decide_eq_false h, Bool.false_or]
    cases hb : isBox p with
    | true => simp [boxesOf]
    | false => simp


end Go.Proofs.YtgedcalplfnjmaaDoor
