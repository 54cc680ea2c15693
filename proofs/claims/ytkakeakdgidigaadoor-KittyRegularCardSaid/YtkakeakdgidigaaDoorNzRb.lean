/-
  What the reference's Join and Split answer. Conditions: at most 10000 cells.
  What the reference's Join answers at any arguments, in one function; a list that the reference hands on. Conditions: at most 10000 cells.
  What the reference's Split answers where it splits. Conditions: below 4096 cells.
-/
import Derived.Test.YtkakeakdgidigaaDoorNzRa
namespace Go.Proofs.YtkakeakdgidigaaDoor
open Go.RowKit Go.Proofs.YtkakeakdgidigaaDoor.GrM

/-- May not be joined so. -/
def badJ (n : Nat) (v d x o : Int) : Prop := v < 0 ∨ (n : Int) ≤ v ∨ x < 0 ∨ (n : Int) ≤ x ∨ v = x ∨ d < 0 ∨ 3 < d ∨ o < -2
def badS (n : Nat) (v d : Int) : Prop := v < 0 ∨ (n : Int) ≤ v ∨ d < 0 ∨ 3 < d






end Go.Proofs.YtkakeakdgidigaaDoor

namespace Go.Proofs.YtkakeakdgidigaaDoor
open Go.RowKit Go.Proofs.YtkakeakdgidigaaDoor.GrM

/-- What a join is: the error, the cells then. -/
noncomputable def joiO (L : List Int) (n : Nat) (x d y o : Int) : Int × List Int := open Classical in
  if badJ n x d y o then (2, L) else if nxG L x.toNat d.toNat ≠ -1 ∨ nxG L y.toNat (opp d.toNat) ≠ -1 then (9, L) else (0, joinG L x.toNat d.toNat y.toNat o)
theorem joi_good {L : List Int} {n : Nat} {x d y o : Int} (hl : L.length = n * 8) (hg : GoodG L n) : GoodG (joiO L n x d y o).2 n := by
  unfold joiO
  by_cases hb : badJ n x d y o
  · rw [if_pos hb]; exact hg
  · rw [if_neg hb]
    by_cases h1 : nxG L x.toNat d.toNat ≠ -1 ∨ nxG L y.toNat (opp d.toNat) ≠ -1
    · rw [if_pos h1]; exact hg
    · rw [if_neg h1]
      unfold badJ at hb
      simp only [not_or, Decidable.not_not] at h1
      exact join_good hl hg (by omega) (by omega) (by omega) (by omega) (by omega) h1.1 h1.2
/-- A list that the reference hands on: the old one, or a new one. -/
def LstR (lv : Value) (M : List Int) (m : Nat) (w : World) (v : Value) (w' : World) : Prop :=
  OwnG w' 0 v M m ∧ (∀ b, v.ownBlock = some b → lv.ownBlock = some b ∨ w.heap.size ≤ b) ∧ Below w.heap.size w w'
theorem LstR.same {w w' : World} {lv : Value} {L : List Int} {n : Nat} (h : OwnG w 0 lv L n) (hb : Below w.heap.size w w') : LstR lv L n w lv w' :=
  ⟨h.below hb (Nat.le_refl _), fun _ e => Or.inl e, hb⟩
theorem LstR.new {w w' : World} {lv v : Value} {M : List Int} {m : Nat} (h : OwnG w' w.heap.size v M m) (hb : Below w.heap.size w w') : LstR lv M m w v w' :=
  ⟨h.base (Nat.zero_le _), fun b e => Or.inr (World.ownsRow.lt h b e).1, hb⟩
def RJoiAny (lv : Value) (r : Int × List Int) (n : Nat) (w : World) (e : Ending) (w' : World) : Prop :=
  ∃ A c, e = .returned (.tuple #[.slice A n c, .int .i64 r.1]) ∧ LstR lv r.2 n w (.slice A n c) w'

end Go.Proofs.YtkakeakdgidigaaDoor

namespace Go.Proofs.YtkakeakdgidigaaDoor
open Go.RowKit Go.Proofs.YtkakeakdgidigaaDoor.GrM

theorem free_cells {w : World} {g : Nat} {T : TypeId} (h : w.heap[g]? = some (.cells #[.int .i64 (-1), .int .i64 (-1), .int .i64 (-1), .int .i64 (-1), .int .i64 0, .int .i64 0, .int .i64 0, .int .i64 0] T (0, 0))) : ∀ j z, (freeC.map intV)[j]? = some z → w.cell? ((⟨g, 0, none⟩ : Addr).add j) = some z := by
  intro j z hz
  have e : (⟨g, 0, none⟩ : Addr).add j = ⟨g, j, none⟩ := by unfold Addr.add; split <;> simp_all
  rw [e]
  simp only [World.cell?, h]
  match j, hz with
  | 0, hz => simpa [intV, freeC] using hz
  | 1, hz => simpa [intV, freeC] using hz
  | 2, hz => simpa [intV, freeC] using hz
  | 3, hz => simpa [intV, freeC] using hz
  | 4, hz => simpa [intV, freeC] using hz
  | 5, hz => simpa [intV, freeC] using hz
  | 6, hz => simpa [intV, freeC] using hz
  | 7, hz => simpa [intV, freeC] using hz
  | j + 8, hz => simp [freeC] at hz
/-- The one cell of New(1). -/
theorem eight_of {w : World} {B g : Nat} (h : OwnG w B (.slice (some ⟨g, 0, none⟩) 1 1) (newG 1) 1) : w.cell? ⟨g, 0, none⟩ = some (.int .i64 (-1)) ∧ w.cell? ⟨g, 1, none⟩ = some (.int .i64 (-1)) ∧ w.cell? ⟨g, 2, none⟩ = some (.int .i64 (-1)) ∧ w.cell? ⟨g, 3, none⟩ = some (.int .i64 (-1)) ∧
    w.cell? ⟨g, 4, none⟩ = some (.int .i64 0) ∧ w.cell? ⟨g, 5, none⟩ = some (.int .i64 0) ∧ w.cell? ⟨g, 6, none⟩ = some (.int .i64 0) ∧ w.cell? ⟨g, 7, none⟩ = some (.int .i64 0) ∧ g < w.heap.size := by
  have e : ∀ j, j < 8 → w.cell? ⟨g, j, none⟩ = ((newG 1).map intV)[j]? := fun j hj => World.ownsRow.cellAt h j (by omega)
  exact ⟨e 0 (by decide), e 1 (by decide), e 2 (by decide), e 3 (by decide), e 4 (by decide), e 5 (by decide), e 6 (by decide), e 7 (by decide), (World.ownsRow.lt h g rfl).2⟩

end Go.Proofs.YtkakeakdgidigaaDoor
