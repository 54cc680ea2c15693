/-
  The reference's Number and Digits answer what the program's do. Conditions: none.
-/
import Derived.Test.YtgedcalplfnjmaaDoorLexS
namespace Go.Proofs.YtgedcalplfnjmaaDoor
open Go.RowKit Go.Proofs.YtgedcalplfnjmaaDoor.LexM

theorem isNum_of {l : List UInt8} (h0 : 1 ≤ l.length) (h7 : l.length ≤ 7) (hb : l.length = 1 ∨ l.head? ≠ some 48) : isNum l = l.all isDigit := by
  have hne : l.isEmpty = false := by cases l with | nil => simp at h0 | cons _ _ => rfl
  unfold isNum canon
  rw [hne, decide_eq_true h7]
  rcases hb with hb | hb
  · have : decide (1 < l.length) = false := by rw [hb]; rfl
    rw [this]; simp
  · have : (l.head? == some 48) = false := by simpa using hb
    rw [this]; simp
theorem isNum_not {l : List UInt8} (h : l = [] ∨ 7 < l.length ∨ (1 < l.length ∧ l.head? = some 48)) : isNum l = false := by
  unfold isNum canon
  rcases h with rfl | h | ⟨h1, h2⟩
  · rfl
  · rw [decide_eq_false (p := l.length ≤ 7) (by omega), Bool.and_false]
  · rw [decide_eq_true h1, h2]; simp
theorem head_at (s : ByteArray) (h : 0 < s.size) : s.data.toList.head? = some (s[0]'h) := by
  rw [List.head?_eq_getElem?]; exact byte_at s 0 h
theorem num_no {l : List UInt8} (most : Int) (h : isNum l = false) : numOk l most = false ∧ numVal l most = 0 := by
  have e : numOk l most = false := by unfold numOk; rw [h]; rfl
  exact ⟨e, by unfold numVal; rw [e]; rfl⟩
theorem num_yes {l : List UInt8} {most : Int} (h : isNum l = true) (hm : (val l : Int) ≤ most) : numOk l most = true ∧ numVal l most = val l := by
  have e : numOk l most = true := by unfold numOk; rw [h, decide_eq_true hm]; rfl
  exact ⟨e, by unfold numVal; rw [e]; rfl⟩
theorem num_more {l : List UInt8} {most : Int} (hm : ¬ (val l : Int) ≤ most) : numOk l most = false ∧ numVal l most = 0 := by
  have e : numOk l most = false := by unfold numOk; rw [decide_eq_false hm, Bool.and_false]
  exact ⟨e, by unfold numVal; rw [e]; rfl⟩

def RnRel (l : List UInt8) (w wr : World) (nv iv : Value) : Prop := ∃ (k v : Nat), iv = .int .i64 k ∧ nv = .int .i64 v ∧ k ≤ l.length ∧ (l.take k).all isDigit = true ∧ v = val (l.take k) ∧ Below w.heap.size w wr


end Go.Proofs.YtgedcalplfnjmaaDoor
