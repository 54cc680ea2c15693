/-
  Are rows, shapes the same? May a shape be written? Conditions: at most 1000000 of each.
-/
import Derived.Test.YtgedcalplfnjmaaDoorParH
import Derived.Laws.StructEq
namespace Go.Proofs.YtgedcalplfnjmaaDoor
open Go.RowKit Go.Proofs.YtgedcalplfnjmaaDoor.LexM Go.Proofs.YtgedcalplfnjmaaDoor.ParM

theorem BlsAt.nth {w : World} {v : Value} {L : List Bool} (h : BlsAt w v L) {i : Nat} (hi : i < L.length) : ∃ b o cap, v = .slice (some ⟨b, o, none⟩) L.length cap ∧ b < w.heap.size ∧ w.cell? ⟨b, o + i, none⟩ = some (.bool L[i]) := by
  obtain ⟨A, cap, rfl, _, hA⟩ := h
  obtain ⟨b, o, rfl, hb, hc⟩ := hA (by omega)
  exact ⟨b, o, cap, rfl, hb, hc i hi⟩
theorem EdsAt.nth {w : World} {v : Value} {L : List Edg} (h : EdsAt w v L) {i : Nat} (hi : i < L.length) : ∃ b o cap, v = .slice (some ⟨b, o, none⟩) L.length cap ∧ b < w.heap.size ∧ w.cell? ⟨b, o + i * 4, none⟩ = some (.int .i64 L[i].1) ∧ w.cell? ⟨b, o + i * 4 + 1, none⟩ = some (.int .i64 L[i].2.1) ∧ w.cell? ⟨b, o + i * 4 + 2, none⟩ = some (.int .i64 L[i].2.2.1) ∧ w.cell? ⟨b, o + i * 4 + 3, none⟩ = some (.string (bs L[i].2.2.2)) := by
  obtain ⟨A, cap, rfl, _, hA⟩ := h
  obtain ⟨b, o, rfl, hb, hc⟩ := hA (by omega)
  exact ⟨b, o, cap, rfl, hb, hc i hi⟩
def EqRel {α : Type} (L M : List α) (w wr : World) (iv : Value) : Prop := ∃ k : Nat, iv = .int .i64 k ∧ k ≤ L.length ∧ L.take k = M.take k ∧ Below w.heap.size w wr
theorem take_same {α : Type} {L M : List α} {k : Nat} (h : L.take k = M.take k) (h1 : k < L.length) (h2 : k < M.length) : L.take (k + 1) = M.take (k + 1) ↔ L[k] = M[k] := by
  rw [List.take_succ_eq_append_getElem h1, List.take_succ_eq_append_getElem h2, h]
  constructor
  · intro e
    have := List.append_cancel_left e
    injection this
  · intro e; rw [e]
theorem ne_take {α : Type} {L M : List α} {k : Nat} (h1 : k < L.length) (h2 : k < M.length) (h : L[k] ≠ M[k]) : L ≠ M := by
  intro e; subst e; exact h rfl

theorem guardE : Tryd.prog.eqGuardType Tryd.prog.depth 23 = false := by kernel_rfl
theorem heldE : Tryd.prog.stoodInHeld 23 = false := by kernel_rfl
theorem edge_beq (a1 a2 a3 b1 b2 b3 : Int) (s t : List UInt8) : (a1 == b1 && (a2 == b2 && (a3 == b3 && (bs s).toList == (bs t).toList))) = decide ((a1, a2, a3, s) = (b1, b2, b3, t)) := by
  rw [toList_data, toList_data, bs_data, bs_data, Bool.eq_iff_iff]
  simp
theorem neq_edge (w : World) (a1 a2 a3 b1 b2 b3 : Int) (s t : List UInt8) (r : Bool) (hr : (a1 == b1 && (a2 == b2 && (a3 == b3 && (bs s).toList == (bs t).toList))) = !r) :
    (binOp .neq 23 (.agg #[.int .i64 a1, .int .i64 a2, .int .i64 a3, .string (bs s)]) (.agg #[.int .i64 b1, .int .i64 b2, .int .i64 b3, .string (bs t)])).run Tryd.prog w = .ok (.bool r) w := by
  have hu := Tryd.underlying23
  have hi := Tryd.underlying3
  have hs := Tryd.underlying9
  rw [run_neq_struct]
  have h := run_equalIn_agg (P := Tryd.prog) w 9999 23 #[.int .i64 a1, .int .i64 a2, .int .i64 a3, .string (bs s)] #[.int .i64 b1, .int .i64 b2, .int .i64 b3, .string (bs t)] (by kernel_rfl) heldE
  rw [h]
  unfold Program.fieldsOf
  rw [hu]
  simp [Op.eqFields, go_sem]
  have h0 : r = !(a1 == b1 && (a2 == b2 && (a3 == b3 && (bs s).toList == (bs t).toList))) := by rw [hr]; simp
  subst h0
  by_cases h1 : a1 = b1
  · by_cases h2 : a2 = b2
    · by_cases h3 : a3 = b3
      · by_cases h4 : (bs s).toList = (bs t).toList
        · simp [h1, h2, h3, h4]
        · simp [h1, h2, h3, h4]
      · simp [h1, h2, h3]
    · simp [h1, h2]
  · simp [h1]

end Go.Proofs.YtgedcalplfnjmaaDoor
