/-
  What valid's Outer answers: where the outer face is, the error; how its rotations are gone through: mathematics; no program stands here. Conditions: none.
-/
import Derived.Test.YtkakeakdgidigaaDoorVzV
namespace Go.Proofs.YtkakeakdgidigaaDoor.VdM
open Go.Proofs.YtkakeakdgidigaaDoor.GrM Go.Proofs.YtkakeakdgidigaaDoor.FcM Go.Proofs.YtkakeakdgidigaaDoor.JoM

/-- The code's Outer: the place, the error. -/
noncomputable def outW (L : List Int) (n : Nat) : Int := if vldE L n = 0 ∧ n ≠ 1 then (outI (rotsK L n) : Int) else 0
noncomputable def outQ (L : List Int) (n : Nat) : Int := if vldE L n = 0 ∧ n = 1 then 2 else vldE L n
/-- The document's. -/
noncomputable def refW (L : List Int) (n : Nat) : Int := if vldE L n = 0 ∧ n ≠ 1 then (outI (rotsK L n) : Int) else -1
theorem vld_bad {L : List Int} {n : Nat} (h : chkG L n ≠ 0) : vldE L n = chkG L n := by unfold vldE; rw [if_pos h]
theorem vld_apart {L : List Int} {n : Nat} (h : chkG L n = 0) (h1 : (partsK L n n).length ≠ 1) : vldE L n = 13 := by rw [vld_good h, if_pos h1]
theorem vld_one {L : List Int} {n : Nat} (h : chkG L n = 0) (h1 : (partsK L n n).length = 1) (hn : n = 1) : vldE L n = 0 := by rw [vld_good h, if_neg (fun q => q h1), if_pos hn]
theorem vld_yes {L : List Int} {n : Nat} (h : chkG L n = 0) (h1 : (partsK L n n).length = 1) (hg : goodR (rotsK L n)) : vldE L n = 0 := by
  rw [vld_good h, if_neg (fun q => q h1)]
  by_cases c : n = 1
  · rw [if_pos c]
  · rw [if_neg c, if_pos hg]
theorem vld_no {L : List Int} {n : Nat} (h : chkG L n = 0) (h1 : (partsK L n n).length = 1) (hn : n ≠ 1) (hg : ¬ goodR (rotsK L n)) : vldE L n = 10 := by
  rw [vld_good h, if_neg (fun q => q h1), if_neg hn, if_neg hg]
theorem ans_bad {L : List Int} {n : Nat} (h : vldE L n ≠ 0) : outW L n = 0 ∧ outQ L n = vldE L n ∧ refW L n = -1 := by
  unfold outW outQ refW
  exact ⟨by rw [if_neg (fun q => h q.1)], by rw [if_neg (fun q => h q.1)], by rw [if_neg (fun q => h q.1)]⟩
theorem ans_one {L : List Int} {n : Nat} (h : vldE L n = 0) (hn : n = 1) : outW L n = 0 ∧ outQ L n = 2 ∧ refW L n = -1 := by
  unfold outW outQ refW
  exact ⟨by rw [if_neg (fun q => q.2 hn)], by rw [if_pos ⟨h, hn⟩], by rw [if_neg (fun q => q.2 hn)]⟩
theorem ans_good {L : List Int} {n : Nat} (h : vldE L n = 0) (hn : n ≠ 1) : outW L n = (outI (rotsK L n) : Nat) ∧ outQ L n = 0 ∧ refW L n = (outI (rotsK L n) : Nat) := by
  unfold outW outQ refW
  exact ⟨by rw [if_pos ⟨h, hn⟩], by rw [if_neg (fun q => hn q.2), h], by rw [if_pos ⟨h, hn⟩]⟩
/-- Rotations gone through: all so far are 4 or -4; how many are -4, where the last one is. -/
structure PlR (R : List Int) (k a o : Nat) : Prop where
  all : ∀ j, j < k → R.getD j 0 = 4 ∨ R.getD j 0 = -4
  cnt : (R.take k).count (-4) = o
  at_ : o = 0 → a = 0
  one : o = 1 → a = (R.take k).idxOf (-4)
theorem PlR.start (R : List Int) : PlR R 0 0 0 := ⟨fun j hj => absurd hj (by omega), by simp, fun _ => rfl, fun h => absurd h (by omega)⟩
theorem take_getD {R : List Int} {k : Nat} (h : k < R.length) : R.take (k + 1) = R.take k ++ [R.getD k 0] := by
  rw [List.take_succ_eq_append_getElem h, List.getD_eq_getElem?_getD, List.getElem?_eq_getElem h]; rfl
theorem PlR.le {R : List Int} {k a o : Nat} (h : PlR R k a o) : o ≤ k := by
  have := List.count_le_length (a := (-4 : Int)) (l := R.take k)
  rw [h.cnt, List.length_take] at this
  omega
theorem PlR.inner {R : List Int} {k a o : Nat} (h : PlR R k a o) (hk : k < R.length) (hr : R.getD k 0 = 4) : PlR R (k + 1) a o where
  all j hj := by
    by_cases c : j = k
    · subst c; exact Or.inl hr
    · exact h.all j (by omega)
  cnt := by rw [take_getD hk, hr, List.count_append, h.cnt]; simp
  at_ := h.at_
  one ho := by
    have hm : (-4 : Int) ∈ R.take k := List.count_pos_iff.1 (by rw [h.cnt]; omega)
    rw [take_getD hk, List.idxOf_append, if_pos hm]
    exact h.one ho
theorem PlR.outer {R : List Int} {k a o : Nat} (h : PlR R k a o) (hk : k < R.length) (hr : R.getD k 0 = -4) : PlR R (k + 1) k (o + 1) where
  all j hj := by
    by_cases c : j = k
    · subst c; exact Or.inr hr
    · exact h.all j (by omega)
  cnt := by rw [take_getD hk, hr, List.count_append, h.cnt]; simp
  at_ ho := absurd ho (by omega)
  one ho := by
    have hm : (-4 : Int) ∉ R.take k := List.count_eq_zero.1 (by rw [h.cnt]; omega)
    rw [take_getD hk, hr, List.idxOf_append, if_neg hm, List.length_take]
    simp
    omega
theorem PlR.bad {R : List Int} {k : Nat} (hk : k < R.length) (h1 : R.getD k 0 ≠ 4) (h2 : R.getD k 0 ≠ -4) : ¬ goodR R := fun g => by
  rcases g.2 _ (getD_memI hk) with q | q
  · exact h1 q
  · exact h2 q
theorem PlR.yes {R : List Int} {a o : Nat} (h : PlR R R.length a o) (ho : o = 1) : goodR R ∧ a = outI R := by
  have hc := h.cnt
  have h1 := h.one ho
  rw [List.take_length] at hc h1
  refine ⟨⟨by rw [hc, ho], fun r hr => ?_⟩, h1⟩
  obtain ⟨j, hj, rfl⟩ := List.getElem_of_mem hr
  have := h.all j hj
  rw [List.getD_eq_getElem?_getD, List.getElem?_eq_getElem hj] at this
  simpa using this
theorem PlR.no {R : List Int} {a o : Nat} (h : PlR R R.length a o) (ho : o ≠ 1) : ¬ goodR R := fun g => by
  have hc := h.cnt
  rw [List.take_length, g.1] at hc
  exact ho hc.symm
theorem flat_dropV {F : List (List Nat)} {i : Nat} (h : i < F.length) : (F.drop i).flatten = F.getD i [] ++ (F.drop (i + 1)).flatten := by
  rw [List.drop_eq_getElem_cons h, List.flatten_cons, List.getD_eq_getElem?_getD, List.getElem?_eq_getElem h]; rfl
theorem flat_takeV {F : List (List (Int × Int))} {i : Nat} (h : i < F.length) : (F.take (i + 1)).flatten = (F.take i).flatten ++ F.getD i [] := by
  rw [List.take_succ_eq_append_getElem h, List.flatten_append, List.getD_eq_getElem?_getD, List.getElem?_eq_getElem h]; simp
theorem rots_take {L : List Int} {F : List (List Nat)} {i : Nat} (h : i < F.length) : (F.take (i + 1)).map (smF (trnK L)) = (F.take i).map (smF (trnK L)) ++ [smF (trnK L) (F.getD i [])] := by
  rw [List.take_succ_eq_append_getElem h, List.map_append, List.getD_eq_getElem?_getD, List.getElem?_eq_getElem h]; rfl
end Go.Proofs.YtkakeakdgidigaaDoor.VdM
