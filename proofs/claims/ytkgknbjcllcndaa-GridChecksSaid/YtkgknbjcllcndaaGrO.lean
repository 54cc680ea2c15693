/-
  Rows of points of the call's own (the reference's Make lays one), two points compared. Conditions: none.
-/
import Derived.Test.YtkgknbjcllcndaaGrN
namespace Go.Proofs.Ytkgknbjcllcndaa
open Go.RowKit Go.Proofs.Ytkgknbjcllcndaa.GrM

/-- A point's two cells. -/
def encP (p : Int × Int) : List Value := [.int .i64 p.1, .int .i64 p.2]
theorem encP_len (P : List (Int × Int)) : (P.flatMap encP).length = P.length * 2 := by
  induction P with
  | nil => rfl
  | cons p P ih => simp [List.flatMap_cons, encP, ih]; omega
theorem encP_at : ∀ (P : List (Int × Int)) (k : Nat), k < P.length → (P.flatMap encP)[k * 2]? = some (.int .i64 (P.getD k (0, 0)).1) ∧ (P.flatMap encP)[k * 2 + 1]? = some (.int .i64 (P.getD k (0, 0)).2)
  | [], k, h => absurd h (by simp)
  | p :: P, 0, _ => ⟨rfl, rfl⟩
  | p :: P, k + 1, h => by
    have := encP_at P k (by simpa using h)
    have e1 : (k + 1) * 2 = k * 2 + 1 + 1 := by omega
    rw [e1]
    simpa [List.flatMap_cons, encP] using this
def OwnPt (w : World) (B : Nat) (v : Value) (P : List (Int × Int)) : Prop := w.ownsRow B 75 2 v P.length (P.flatMap encP)
theorem OwnPt.form {w : World} {B : Nat} {v : Value} {P : List (Int × Int)} (h : OwnPt w B v P) : ∃ ao cap, v = .slice ao P.length cap := by
  rcases h.2 with ⟨h1, h2⟩ | ⟨_, _, _, h, _⟩
  · exact ⟨none, 0, by rw [h2]; exact h1⟩
  · exact ⟨_, _, h⟩
theorem OwnPt.below {w w' : World} {B C : Nat} {v : Value} {P : List (Int × Int)} (h : OwnPt w B v P) (o : Below C w w') (hC : w.heap.size ≤ C) : OwnPt w' B v P := ownsRow_out (S := fun _ => False) h (Out.ofBelow (o.mono hC)) (fun _ _ e => e)
theorem OwnPt.nil (w : World) (B : Nat) : OwnPt w B (.slice none 0 0) [] := World.ownsRow_nil _ _ _ _
theorem OwnPt.base {w : World} {B C : Nat} {v : Value} {P : List (Int × Int)} (h : OwnPt w B v P) (hC : C ≤ B) : OwnPt w C v P := by
  refine ⟨h.1, ?_⟩
  rcases h.2 with q | ⟨g, cap, cur, hv, hg, r⟩
  · exact Or.inl q
  · exact Or.inr ⟨g, cap, cur, hv, by omega, r⟩
theorem OwnPt.pts {w : World} {B : Nat} {v : Value} {P : List (Int × Int)} (h : OwnPt w B v P) : PtsAt w v P := by
  have h' := h
  rcases h.2 with ⟨rfl, h2⟩ | ⟨g, cap, cur, rfl, _, hg, hn, hr⟩
  · exact ⟨none, 0, by rw [h2], by omega, fun h => absurd h (by omega)⟩
  · refine ⟨_, cap, rfl, hn, fun _ => ⟨g, 0, rfl, (Array.getElem?_eq_some_iff.1 hg).1, fun k hk => ?_⟩⟩
    have e := encP_at P k hk
    have hl := encP_len P
    rw [Nat.zero_add, h'.cellAt (k * 2) (by omega), h'.cellAt (k * 2 + 1) (by omega)]
    exact e
/-- A point more. -/
theorem OwnPt.more {w : World} {B : Nat} {v : Value} {P : List (Int × Int)} {p : Int × Int} (h : w.ownsRow B 75 2 v (P.length + 1) (P.flatMap encP ++ encP p)) : OwnPt w B v (P ++ [p]) := by
  unfold OwnPt
  rw [List.length_append, List.flatMap_append]
  simpa using h
theorem heldPt : Try.prog.stoodInHeld 75 = false := by kernel_rfl
theorem eqPt (w : World) (a0 a1 b0 b1 : Int) : (binOp .eql 75 (.agg #[.int .i64 a0, .int .i64 a1]) (.agg #[.int .i64 b0, .int .i64 b1])).run Try.prog w = .ok (.bool (a0 == b0 && a1 == b1)) w := by
  have hu := Try.underlying75
  have hi := Try.underlying3
  rw [run_eql_struct]
  have h := run_equalIn_agg (P := Try.prog) w 9999 75 #[.int .i64 a0, .int .i64 a1] #[.int .i64 b0, .int .i64 b1] (by kernel_rfl) heldPt
  rw [h]
  unfold Program.fieldsOf
  rw [hu]
  simp [Op.eqFields, go_sem]
  by_cases h0 : a0 = b0
  · by_cases h1 : a1 = b1
    · simp [h0, h1]
    · simp [h0, h1]
  · simp [h0]
/-- One more, on a place where none lies. -/
theorem apart_more {P : List (Int × Int)} {p : Int × Int} (h : Apart P) (hn : ∀ k, k < P.length → P.getD k (0, 0) ≠ p) : Apart (P ++ [p]) := by
  have hb : ∀ k, k < P.length → (P ++ [p]).getD k (0, 0) = P.getD k (0, 0) := fun k hk => by
    simp [List.getD_eq_getElem?_getD, List.getElem?_append_left hk]
  have he : (P ++ [p]).getD P.length (0, 0) = p := by simp [List.getD_eq_getElem?_getD]
  intro i j hi hj e
  rw [List.length_append, List.length_singleton] at hi hj
  by_cases ci : i < P.length
  · by_cases cj : j < P.length
    · rw [hb i ci, hb j cj] at e; exact h i j ci cj e
    · obtain rfl : j = P.length := by omega
      rw [hb i ci, he] at e
      exact absurd e (hn i ci)
  · obtain rfl : i = P.length := by omega
    by_cases cj : j < P.length
    · rw [he, hb j cj] at e
      exact absurd e.symm (hn j cj)
    · omega
theorem apart_nil : Apart [] := fun i _ hi _ _ => absurd hi (by simp)
end Go.Proofs.Ytkgknbjcllcndaa
