/-
  What the code's Of and the document's Of answer, side by side. Conditions: a shape that may be written and is a norm's; the borders read as the program lays them.
-/
import Derived.Test.YtilggacflpchhaaDoorNcW
import Derived.Test.YtilggacflpchhaaDoorNmL
import Derived.Test.YtilggacflpchhaaDoorNmG
namespace Go.Proofs.YtilggacflpchhaaDoor
open Go.RowKit Go.Proofs.YtilggacflpchhaaDoor.LexM Go.Proofs.YtilggacflpchhaaDoor.ParM Go.Proofs.YtilggacflpchhaaDoor.GrM Go.Proofs.YtilggacflpchhaaDoor.NmM

theorem OwnZ.le {w : World} {B n : Nat} {v : Value} {x : List Int} (h : OwnZ w B v x n) : n ≤ 9223372036854775807 := by
  rcases h.2.2 with ⟨_, h2⟩ | ⟨g, cap, cur, hv, hg, r⟩
  · omega
  · have h1 := r.2.1
    have h2 := r.2.2.1
    unfold maxLen at h2
    omega
/-- Rows of rows of ints to be read. -/
def WzAt (w : World) (A : Option Addr) (W : Nat → List Int) (n : Nat) : Prop :=
  0 < n → ∃ b o, A = some ⟨b, o, none⟩ ∧ b < w.heap.size ∧ ∀ i, i < n → ∃ A' m c', w.cell? ⟨b, o + i, none⟩ = some (.slice A' m c') ∧ ZsAt w (.slice A' m c') (W i) m ∧ m ≤ 9223372036854775807
theorem WzAt.below {w w' : World} {C n : Nat} {A : Option Addr} {W : Nat → List Int} (h : WzAt w A W n) (o : Below C w w') (hC : w.heap.size ≤ C) : WzAt w' A W n := by
  intro h0
  obtain ⟨b, q, e, hb, hc⟩ := h h0
  refine ⟨b, q, e, Nat.lt_of_lt_of_le hb o.size, fun i hi => ?_⟩
  obtain ⟨A', m, c', h1, h2, h3⟩ := hc i hi
  exact ⟨A', m, c', (o.cell (p := ⟨b, q + i, none⟩) (Nat.lt_of_lt_of_le hb hC)).trans h1, h2.below o hC, h3⟩
structure N3 (w : World) (A1 : Option Addr) (c1 : Nat) (A2 : Option Addr) (c2 : Nat) (A3 : Option Addr) (L : List Int) (n : Nat) (F : List Int) (nB : Nat) (W : Nat → List Int) (nE : Nat) : Prop where
  cel : CelAt w (.slice A1 n c1) L n
  fst : ZsAt w (.slice A2 nB c2) F nB
  way : WzAt w A3 W nE
theorem N3.below {w w' : World} {C c1 c2 n nB nE : Nat} {A1 A2 A3 : Option Addr} {L F : List Int} {W : Nat → List Int} (h : N3 w A1 c1 A2 c2 A3 L n F nB W nE) (o : Below C w w') (hC : w.heap.size ≤ C) : N3 w' A1 c1 A2 c2 A3 L n F nB W nE :=
  ⟨h.cel.below o hC, h.fst.below o hC, h.way.below o hC⟩
theorem okEs_may {B : List Bool} {E : List Edg} (hM : May B E) : OkEs E := fun e he => by
  have h := hM.ok e he
  have := bend_le hM.bs he
  exact ⟨h.2.2.2.2.1, h.2.2.2.2.2.1, by omega⟩
theorem cnt_of_wr {B : List Bool} {E : List Edg} (h : wrN B E = 0) : cntN B E ≤ 4096 := by
  unfold wrN at h
  by_cases h0 : chkS B E ≠ 0
  · rw [if_pos h0] at h
    exact absurd h h0
  · rw [if_neg h0] at h
    by_cases h1 : 4096 < cntN B E
    · rw [if_pos h1] at h
      exact absurd h (by decide)
    · omega
theorem normYes {w : World} (bv ev : Value) (B : List Bool) (E : List Edg) (hB : BlsAt w bv B) (hE : EdsAt w ev E) (hM : May B E) (hT : BorT w) (hz : wrN B E = 0) :
    Calls Tryd.prog 7 #[.agg #[bv, ev]] w fun e w' => (∃ A1 c1 A2 c2 A3 c3, e = .returned (.tuple #[.agg #[.slice A1 (cntN B E) c1, .slice A2 B.length c2, .slice A3 E.length c3], .int .i64 0]) ∧ N3 w' A1 c1 A2 c2 A3 (celS B E) (cntN B E) (fstS B E) B.length (wayS B E) E.length) ∧ Below w.heap.size w w' := by
  refine (normOf bv ev _ _ hB hE hM hT).mono ?_
  rintro e w' ⟨hb, ⟨h, _⟩ | ⟨_, cv, fv, wv, rfl, hN⟩⟩
  · exact absurd hz h
  · have h1 := hN.cel
    have h2 := hN.fst
    have h3 := hN.way
    obtain ⟨A1, c1, rfl⟩ := h1.form
    obtain ⟨A2, c2, rfl⟩ := h2.form
    obtain ⟨A3, c3, rfl, h4⟩ := h3
    refine ⟨⟨A1, c1, A2, c2, A3, c3, rfl, h1.cel, h2.zs, fun h0 => ?_⟩, hb⟩
    obtain ⟨b, o, e, hl, hc⟩ := h4 h0
    refine ⟨b, o, e, hl, fun i hi => ?_⟩
    obtain ⟨A, m, c, h5, h6⟩ := hc i hi
    exact ⟨A, m, c, h5, h6.zs, h6.le⟩
theorem normNo {w : World} (bv ev : Value) (B : List Bool) (E : List Edg) (hB : BlsAt w bv B) (hE : EdsAt w ev E) (hM : May B E) (hT : BorT w) (hz : wrN B E ≠ 0) :
    Calls Tryd.prog 7 #[.agg #[bv, ev]] w fun e w' => e = .returned (.tuple #[.agg #[.slice none 0 0, .slice none 0 0, .slice none 0 0], .int .i64 (wrN B E)]) ∧ Below w.heap.size w w' := by
  refine (normOf bv ev _ _ hB hE hM hT).mono ?_
  rintro e w' ⟨hb, ⟨_, h⟩ | ⟨h, _⟩⟩
  · exact ⟨h, hb⟩
  · exact absurd h hz
theorem refYes {w : World} (bv ev : Value) (B : List Bool) (E : List Edg) (hB : BlsAt w bv B) (hE : EdsAt w ev E) (hM : May B E) (hz : wrN B E = 0) :
    Calls Tryd.prog 10 #[.agg #[bv, ev]] w fun e w' => (∃ A1 c1 A2 c2 A4 c4 A3 c3, e = .returned (.agg #[.slice A1 (cntN B E) c1, .slice A2 B.length c2, .slice A4 E.length c4, .slice A3 E.length c3]) ∧ N3 w' A1 c1 A2 c2 A3 (celS B E) (cntN B E) (fstS B E) B.length (wayS B E) E.length) ∧ Below w.heap.size w w' := by
  refine (refOf bv ev _ _ hB hE hM (cnt_of_wr hz) (okEs_may hM)).mono ?_
  rintro e w' ⟨cv, fv, ev, wv, V, rfl, h1, h2, h3, h4, ⟨A4, c4, rfl⟩, hb⟩
  obtain ⟨s1, s2, s3⟩ := cells_same hM
  rw [s1, s2] at h1
  obtain ⟨A1, c1, rfl⟩ := h1.form
  obtain ⟨A2, c2, rfl⟩ := h2.form
  rcases h3.2 with ⟨e1, e2⟩ | ⟨g, cap, cur, hv, hg, r⟩
  · subst e1
    rw [e2]
    refine ⟨⟨A1, c1, A2, c2, A4, c4, none, 0, rfl, h1.cel, h2.zs, fun h0 => absurd h0 (by omega)⟩, hb⟩
  · subst hv
    refine ⟨⟨A1, c1, A2, c2, A4, c4, _, _, rfl, h1.cel, h2.zs, fun h0 => ⟨g, 0, rfl, (World.ownsRow.lt h3 _ rfl).2, fun i hi => ?_⟩⟩, hb⟩
    have h5 := h4 i hi
    rw [s3 i hi] at h5
    obtain ⟨A, c, e⟩ := h5.form
    rw [e] at h5
    refine ⟨A, _, c, ?_, h5.zs, h5.le⟩
    rw [Nat.zero_add, World.ownsRow.cellAt h3 i (by omega), List.getElem?_map, List.getElem?_range hi, ← e]
    rfl
end Go.Proofs.YtilggacflpchhaaDoor
