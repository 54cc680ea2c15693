/-
  Rows of cells in memory: to be read, and of the call's own. Conditions: none.
-/
import Derived.Test.YtkgknbjcllcndaaGrP
import Derived.Test.YtkgknbjcllcndaaHeapStep
import Derived.Test.YtkgknbjcllcndaaAppendRows
import Derived.IntWalk
import Derived.Deep.RegionHeld3
import Derived.Deep.CutRange
import Derived.Deep.CutBlock
namespace Go.Proofs.Ytkgknbjcllcndaa
open Go.RowKit Go.Proofs.Ytkgknbjcllcndaa.GrM

def intV (x : Int) : Value := .int .i64 x
/-- Cells, to be read: n of them, eight numbers each. -/
def CelAt (w : World) (v : Value) (L : List Int) (n : Nat) : Prop :=
  L.length = n * 8 ∧ ∃ A cap, v = .slice A n cap ∧ (n ≤ cap ∧ (A = none → cap = 0)) ∧ (0 < n → ∃ b o, A = some ⟨b, o, none⟩ ∧ b < w.heap.size ∧ ∀ j, j < n * 8 → w.cell? ⟨b, o + j, none⟩ = some (.int .i64 (L.getD j 0)))
theorem CelAt.form {w : World} {v : Value} {L : List Int} {n : Nat} (h : CelAt w v L n) : ∃ A cap, v = .slice A n cap := by
  obtain ⟨_, A, cap, e, _⟩ := h; exact ⟨A, cap, e⟩
theorem CelAt.below {C : Nat} {w w' : World} {v : Value} {L : List Int} {n : Nat} (h : CelAt w v L n) (hb : Below C w w') (hC : w.heap.size ≤ C) : CelAt w' v L n := by
  obtain ⟨hl, A, cap, rfl, hc, hA⟩ := h
  refine ⟨hl, A, cap, rfl, hc, fun h0 => ?_⟩
  obtain ⟨b, o, e, hlt, h⟩ := hA h0
  refine ⟨b, o, e, Nat.lt_of_lt_of_le hlt hb.size, fun j hj => ?_⟩
  rw [hb.cell (p := ⟨b, o + j, none⟩) (Nat.lt_of_lt_of_le hlt hC)]
  exact h j hj
theorem CelAt.nil (w : World) : CelAt w (.slice none 0 0) [] 0 := ⟨rfl, none, 0, rfl, ⟨Nat.le_refl _, fun _ => rfl⟩, fun h => absurd h (by simp)⟩
/-- A cell's eight numbers. -/
theorem CelAt.nth {w : World} {v : Value} {L : List Int} {n : Nat} (h : CelAt w v L n) {i : Nat} (hi : i < n) : ∃ b o cap, v = .slice (some ⟨b, o, none⟩) n cap ∧ b < w.heap.size ∧
    (∀ d, d < 4 → w.cell? ⟨b, o + i * 8 + d, none⟩ = some (.int .i64 (nxG L i d))) ∧ (∀ d, d < 4 → w.cell? ⟨b, o + i * 8 + 4 + d, none⟩ = some (.int .i64 (owG L i d))) := by
  obtain ⟨hl, A, cap, rfl, _, hA⟩ := h
  obtain ⟨b, o, rfl, hb, hc⟩ := hA (by omega)
  refine ⟨b, o, cap, rfl, hb, fun d hd => ?_, fun d hd => ?_⟩
  · have := hc (i * 8 + d) (by omega)
    rw [← Nat.add_assoc] at this
    exact this
  · have := hc (i * 8 + 4 + d) (by omega)
    rw [← Nat.add_assoc, ← Nat.add_assoc] at this
    exact this
/-- In a row of the call's own. -/
def OwnG (w : World) (B : Nat) (v : Value) (L : List Int) (n : Nat) : Prop := w.ownsRow B 40 8 v n (L.map intV)
theorem OwnG.len {w : World} {B : Nat} {v : Value} {L : List Int} {n : Nat} (h : OwnG w B v L n) : L.length = n * 8 := by simpa using h.1
theorem OwnG.form {w : World} {B : Nat} {v : Value} {L : List Int} {n : Nat} (h : OwnG w B v L n) : ∃ ao cap, v = .slice ao n cap := by
  rcases h.2 with ⟨h1, h2⟩ | ⟨_, _, _, h, _⟩
  · exact ⟨none, 0, by rw [h2]; exact h1⟩
  · exact ⟨_, _, h⟩
theorem OwnG.below {w w' : World} {B C : Nat} {v : Value} {L : List Int} {n : Nat} (h : OwnG w B v L n) (o : Below C w w') (hC : w.heap.size ≤ C) : OwnG w' B v L n := ownsRow_out (S := fun _ => False) h (Out.ofBelow (o.mono hC)) (fun _ _ e => e)
theorem OwnG.cel {w : World} {B : Nat} {v : Value} {L : List Int} {n : Nat} (h : OwnG w B v L n) : CelAt w v L n := by
  have h' := h
  have hl := h.len
  rcases h.2 with ⟨rfl, h2⟩ | ⟨g, cap, cur, rfl, _, hg, hn, hr⟩
  · exact ⟨hl, none, 0, by rw [h2], ⟨by omega, fun _ => rfl⟩, fun h => absurd h (by omega)⟩
  · refine ⟨hl, _, cap, rfl, ⟨hn, fun e => by cases e⟩, fun _ => ⟨g, 0, rfl, (Array.getElem?_eq_some_iff.1 hg).1, fun j hj => ?_⟩⟩
    rw [Nat.zero_add, h'.cellAt j hj]
    have : j < L.length := by omega
    simp [this, intV, List.getD_eq_getElem?_getD]
theorem OwnG.nil (w : World) (B : Nat) : OwnG w B (.slice none 0 0) [] 0 := World.ownsRow_nil _ _ _ _
theorem OwnG.base {w : World} {B C : Nat} {v : Value} {L : List Int} {n : Nat} (h : OwnG w B v L n) (hC : C ≤ B) : OwnG w C v L n := by
  refine ⟨h.1, ?_⟩
  rcases h.2 with q | ⟨g, cap, cur, hv, hg, r⟩
  · exact Or.inl q
  · exact Or.inr ⟨g, cap, cur, hv, by omega, r⟩
/-- A cell more. -/
theorem OwnG.more {w : World} {B n : Nat} {v : Value} {L K : List Int} (h : w.ownsRow B 40 8 v (n + 1) (L.map intV ++ K.map intV)) : OwnG w B v (L ++ K) (n + 1) := by
  unfold OwnG
  rw [List.map_append]
  exact h
theorem allI (L : List Int) : ∀ u ∈ L.map intV, u.oneCell' = true := fun u hu => by
  obtain ⟨x, _, rfl⟩ := List.mem_map.1 hu; rfl
/-- A number set in place. -/
theorem OwnG.set {w : World} {B n g cap : Nat} {L : List Int} (h : OwnG w B (.slice (some ⟨g, 0, none⟩) n cap) L n) (j : Nat) (x : Int) : OwnG (w.setCell ⟨g, j, none⟩ (.int .i64 x)) B (.slice (some ⟨g, 0, none⟩) n cap) (L.set j x) n := by
  have := (World.ownsRow.stored h j (.int .i64 x)).1
  unfold OwnG
  rw [List.map_set]
  exact this
theorem infoC8 : (Try.prog.info? 40).map (fun i => (i.zero, i.size, i.bytes)) = some (some (.agg #[.int .i64 0, .int .i64 0, .int .i64 0, .int .i64 0, .int .i64 0, .int .i64 0, .int .i64 0, .int .i64 0]), 8, 64) := by kernel_rfl
end Go.Proofs.Ytkgknbjcllcndaa
