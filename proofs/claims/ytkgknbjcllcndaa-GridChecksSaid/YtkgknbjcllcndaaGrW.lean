/-
  A cell's eight numbers; cells with an edge laid over, cell by cell: mathematics. Conditions: none.
-/
import Derived.Test.YtkgknbjcllcndaaGrP
namespace Go.Proofs.Ytkgknbjcllcndaa.GrM

def celL (L : List Int) (i : Nat) : List Int := [nxG L i 0, nxG L i 1, nxG L i 2, nxG L i 3, owG L i 0, owG L i 1, owG L i 2, owG L i 3]
theorem cel_len (L : List Int) (i : Nat) : (celL L i).length = 8 := rfl
theorem cel_get {L : List Int} {i j : Nat} (hj : j < 8) : (celL L i)[j]? = some (L.getD (i * 8 + j) 0) := by
  have hc : j = 0 ∨ j = 1 ∨ j = 2 ∨ j = 3 ∨ j = 4 ∨ j = 5 ∨ j = 6 ∨ j = 7 := by omega
  rcases hc with rfl | rfl | rfl | rfl | rfl | rfl | rfl | rfl <;> rfl
theorem take_cell {L : List Int} {n i : Nat} (hl : L.length = n * 8) (hi : i < n) : L.take ((i + 1) * 8) = L.take (i * 8) ++ celL L i := by
  rw [show (i + 1) * 8 = i * 8 + 8 by omega, List.take_add]
  congr 1
  apply List.ext_getElem?
  intro j
  by_cases hj : j < 8
  · rw [cel_get hj, List.getElem?_take, if_pos hj, List.getElem?_drop, List.getD_eq_getElem?_getD, List.getElem?_eq_getElem (by omega)]; rfl
  · rw [List.getElem?_eq_none (by rw [List.length_take, List.length_drop]; omega), List.getElem?_eq_none (by rw [cel_len]; omega)]
theorem cel_take {L : List Int} {i m : Nat} (hi : i < m) : celL (L.take (m * 8)) i = celL L i := by
  have h : ∀ j, j < 8 → (L.take (m * 8)).getD (i * 8 + j) 0 = L.getD (i * 8 + j) 0 := fun j hj => by
    rw [List.getD_eq_getElem?_getD, List.getD_eq_getElem?_getD, List.getElem?_take, if_pos (by omega)]
  apply List.ext_getElem?
  intro j
  by_cases hj : j < 8
  · rw [cel_get hj, cel_get hj, h j hj]
  · rw [List.getElem?_eq_none (by rw [cel_len]; omega), List.getElem?_eq_none (by rw [cel_len]; omega)]
/-- What the cells with an edge laid over are, side by side. -/
def Laid (L M : List Int) (n : Nat) (v : Int) (d : Nat) (w o : Int) : Prop := M.length = n * 8 ∧ ∀ i e, i < n → e < 4 →
  nxG M i e = (if (i : Int) = w ∧ e = opp d then v else if (i : Int) = v ∧ e = d then w else nxG L i e) ∧
  owG M i e = (if (i : Int) = w ∧ e = opp d then o else if (i : Int) = v ∧ e = d then o else owG L i e)
theorem laid_join {L : List Int} {n v d w : Nat} (o : Int) (hl : L.length = n * 8) (hv : v < n) (hw : w < n) (hd : d < 4) : Laid L (joinG L v d w o) n v d w o := by
  refine ⟨by rw [join_len]; exact hl, fun i e _ he => ?_⟩
  rw [nx_join o hl hv hw hd he, ow_join o hl hv hw hd he]
  simp only [Int.natCast_inj]
  exact ⟨trivial, trivial⟩
theorem laid_copy {L : List Int} {n d : Nat} (o : Int) (hl : L.length = n * 8) : Laid L L n (-1) d (-1) o := by
  refine ⟨hl, fun i e _ _ => ?_⟩
  rw [if_neg (by rintro ⟨h, _⟩; omega), if_neg (by rintro ⟨h, _⟩; omega), if_neg (by rintro ⟨h, _⟩; omega), if_neg (by rintro ⟨h, _⟩; omega)]
  exact ⟨rfl, rfl⟩
/-! Cells without edges, made number by number. -/
def zeroG (n : Nat) : List Int := List.replicate (n * 8) 0
theorem zero_len (n : Nat) : (zeroG n).length = n * 8 := by simp [zeroG]
def partC (d : Nat) : List Int := List.replicate d (-1) ++ List.replicate (8 - d) 0
theorem part_len {d : Nat} (h : d ≤ 4) : (partC d).length = 8 := by simp [partC]; omega
theorem part_four : partC 4 = freeC := rfl
theorem zero_more (n : Nat) : zeroG (n + 1) = partC 0 ++ zeroG n := by
  unfold zeroG partC
  rw [show (n + 1) * 8 = 8 + n * 8 by omega, ← List.replicate_append_replicate]; rfl
theorem part_set {d : Nat} (h : d < 4) (M : List Int) : (partC d ++ M).set d (-1) = partC (d + 1) ++ M := by
  have hc : d = 0 ∨ d = 1 ∨ d = 2 ∨ d = 3 := by omega
  rcases hc with rfl | rfl | rfl | rfl <;> rfl
theorem new_set {v d : Nat} (h : d < 4) (M : List Int) : (newG v ++ (partC d ++ M)).set (v * 8 + d) (-1) = newG v ++ (partC (d + 1) ++ M) := by
  rw [List.set_append_right _ _ (by rw [new_len]; omega), new_len, show v * 8 + d - v * 8 = d by omega, part_set h]
theorem new_next (v : Nat) (M : List Int) : newG v ++ (partC 4 ++ M) = newG (v + 1) ++ M := by
  rw [part_four, newG, List.append_assoc]
/-- Two lists of cells, compared cell by cell. -/
theorem cells_same {L M : List Int} {n : Nat} (hl : L.length = n * 8) (hm : M.length = n * 8) : L = M ↔ ∀ i, i < n → celL L i = celL M i := by
  constructor
  · rintro rfl _ _; rfl
  · intro h
    refine cells_ext hl hm (fun v d hv hd => ?_)
    have hc := h v hv
    simp only [celL, List.cons.injEq, and_true] at hc
    have hx : d = 0 ∨ d = 1 ∨ d = 2 ∨ d = 3 := by omega
    rcases hx with rfl | rfl | rfl | rfl <;> simp [hc]
end Go.Proofs.Ytkgknbjcllcndaa.GrM
