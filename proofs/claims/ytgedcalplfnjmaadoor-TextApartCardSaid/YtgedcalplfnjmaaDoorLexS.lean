/-
  The reference's Words, Number and Digits answer what the program's do. Conditions: none.
-/
import Derived.Test.YtgedcalplfnjmaaDoorLexR
import Derived.Laws.IdiomStrings
namespace Go.Proofs.YtgedcalplfnjmaaDoor
open Go.RowKit Go.Proofs.YtgedcalplfnjmaaDoor.LexM

theorem ps_grows (c : UInt8) (t : List UInt8) : ∀ u : List UInt8, ∃ r, (ps c (t ++ u)).1 = (ps c t).1 ++ r := by
  intro u
  induction u using snoc_ind with
  | h0 => exact ⟨[], by simp⟩
  | h1 u b ih =>
    obtain ⟨r, hr⟩ := ih
    rw [← List.append_assoc, ps_snoc]
    by_cases h : b = c
    · rw [if_pos h, hr]; exact ⟨r ++ [(ps c (t ++ u)).2], by simp⟩
    · rw [if_neg h, hr]; exact ⟨r, rfl⟩
theorem bad_sep {c : UInt8} {l : List UInt8} {k : Nat} {L : List (List UInt8)} (h : PcAt c l k k L) (hk : l[k]? = some c) : [] ∈ pieces c l := by
  have h2 := (h.sep hk).done
  obtain ⟨r, hr⟩ := ps_grows c (l.take (k + 1)) (l.drop (k + 1))
  rw [List.take_append_drop, h2] at hr
  rw [pieces_ps, hr]
  have e : (l.take k).drop k = [] := List.drop_eq_nil_of_le (by rw [List.length_take]; omega)
  rw [e]
  simp
theorem bad_end {c : UInt8} {l : List UInt8} {L : List (List UInt8)} (h : PcAt c l l.length l.length L) : [] ∈ pieces c l := by
  rw [pieces_ps, h.end_]
  simp
theorem good_end {c : UInt8} {l : List UInt8} {f : Nat} {L : List (List UInt8)} (h : PcAt c l l.length f L) : pieces c l = L ++ [l.drop f] := by
  rw [pieces_ps, h.end_]
theorem wdOk_no {l : List UInt8} (h : [] ∈ pieces 32 l) : wdOk l = false ∧ wdL l = [] := by
  have e : wdOk l = false := by rw [wdOk_mem, decide_eq_true h]; rfl
  exact ⟨e, by unfold wdL; rw [e]; rfl⟩
theorem wdOk_yes {l : List UInt8} {L : List (List UInt8)} (h : pieces 32 l = L) (hn : [] ∉ L) : wdOk l = true ∧ wdL l = L := by
  have e : wdOk l = true := by rw [wdOk_mem, h, decide_eq_false hn]; rfl
  exact ⟨e, by unfold wdL; rw [e, h]; rfl⟩
/-- Where the reference's search for words stands. -/
def WdAt (l : List UInt8) (k f : Nat) (L : List (List UInt8)) : Prop := [] ∉ L ∧ ((PcAt 32 l k f L) ∨ (k = l.length + 1 ∧ pieces 32 l = L))
def RwRel (l : List UInt8) (w wr : World) (lv fv iv : Value) : Prop := ∃ (k f : Nat) (L : List (List UInt8)), iv = .int .i64 k ∧ fv = .int .i64 f ∧ k ≤ l.length + 1 ∧ f ≤ k ∧ L.length ≤ l.length + 1 ∧ WdAt l k f L ∧ OwnS wr w.heap.size lv L ∧ Below w.heap.size w wr

end Go.Proofs.YtgedcalplfnjmaaDoor
