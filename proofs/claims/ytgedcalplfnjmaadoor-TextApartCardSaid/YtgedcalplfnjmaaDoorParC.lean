/-
  What the program's readBoxes answers; what is read so far, in memory. Conditions: texts of at most 2000000 bytes.
-/
import Derived.Test.YtgedcalplfnjmaaDoorParB
import Derived.Lib.OthersKept
namespace Go.Proofs.YtgedcalplfnjmaaDoor
open Go.RowKit Go.Proofs.YtgedcalplfnjmaaDoor.LexM Go.Proofs.YtgedcalplfnjmaaDoor.ParM

theorem mkBls (N : Nat) (hN : N ≤ 2000000) (w : World) : (Instr.makeSlice 28 (.int .i64 0) (.int .i64 (N : Int))).run Tryd.prog w = .ok (.slice (some ⟨w.heap.size, 0, none⟩) 0 N) (w.alloc (.cells (madeCells #[.bool false] N) 4)) := by
  obtain ⟨i, hi, hz, hs, hb⟩ := info_of infoBl
  have h := run_make (P := Tryd.prog) w 28 4 i (.bool false) Tryd.underlying28 hi hz .i64 .i64 0 (N : Int) (by decide) (by omega) (by rw [hb]; omega) (by omega)
  rw [hs, Nat.mul_one] at h
  simp only [Int.toNat_zero, Int.toNat_natCast] at h
  exact h
theorem newsB (w : World) (t : TypeId) (x : Bool) (b : Nat) (hb : w.heap.size = b) : ∀ j z, [Value.bool x][j]? = some z → (w.alloc (.cells #[.bool x] t)).cell? ((⟨b, 0, none⟩ : Addr).add j) = some z := by
  intro j z hz
  have hj : j = 0 := by have := List.getElem?_eq_some_iff.1 hz; simp at this; omega
  subst hj hb
  simp at hz
  subst hz
  go_simp
theorem oneB (x : Bool) : ∀ z ∈ [Value.bool x], z.oneCell' = true := by
  intro z hz
  simp at hz
  subst hz
  rfl
theorem row_ne_iter {w : World} {B n k it p : Nat} {e : TypeId} {v : Value} {xs : List Value} {s : ByteArray} (h : w.ownsRow B e k v n xs) (hi : w.heap[it]? = some (.stringIter s p)) : v.ownBlock ≠ some it := by
  intro hc
  rcases h.2 with ⟨rfl, _⟩ | ⟨g, cap, cur, rfl, _, hg, _⟩
  · cases hc
  · have : g = it := by simpa [Value.ownBlock] using hc
    subst this; rw [hg] at hi; cases hi
theorem OwnB.at_ {w : World} {B n : Nat} {v : Value} {l : List Bool} (h : OwnB w B v l) (e : l.length = n) : w.ownsRow B 4 1 v n (l.map Value.bool) := by subst e; exact h
theorem OwnB.snocAt {w : World} {B n : Nat} {v : Value} {l : List Bool} {a : Bool} (e : l.length = n) (h : w.ownsRow B 4 1 v (n + 1) (l.map Value.bool ++ [.bool a])) : OwnB w B v (l ++ [a]) := by subst e; exact OwnB.snoc h
/-- Where readBoxes stands: behind k letters. -/
structure BxIn (s : ByteArray) (w wr : World) (bv : Value) (k : Nat) : Prop where
  le : k ≤ s.size
  good : isBox (s.data.toList.take k) = true
  iter : wr.heap[w.heap.size + 1]? = some (.stringIter s k)
  own : OwnB wr w.heap.size bv (boxesOf (s.data.toList.take k))
  below : Below w.heap.size w wr
theorem BxIn.len {s : ByteArray} {w wr : World} {bv : Value} {k : Nat} (h : BxIn s w wr bv k) : (boxesOf (s.data.toList.take k)).length = k := by
  have := h.le
  have := size_list s
  simp [boxesOf]; omega
def isBx (l : List UInt8) : Bool := decide (l = [45]) || isBox l
def bxV (l : List UInt8) : List Bool := if l = [45] then [] else if isBox l = true then boxesOf l else []
def BoxP (l : List UInt8) (w : World) (e : Ending) (w' : World) : Prop := ∃ v, e = .returned (.tuple #[v, .bool (isBx l)]) ∧ OwnB w' w.heap.size v (bxV l) ∧ Below w.heap.size w w'
theorem not_box {l : List UInt8} {b : UInt8} (hb : b ∈ l) (h1 : b ≠ 112) (h2 : b ≠ 98) : isBox l = false := by
  rw [Bool.eq_false_iff]
  intro hc
  have := List.all_eq_true.1 hc b hb
  simp [h1, h2] at this
theorem box_snoc {l : List UInt8} {b : UInt8} (h : isBox l = true) (hb : b = 112 ∨ b = 98) : isBox (l ++ [b]) = true := by
  unfold isBox at h ⊢
  rw [List.all_append, h]
  rcases hb with rfl | rfl <;> decide
theorem boxesOf_snoc (l : List UInt8) (b : UInt8) : boxesOf (l ++ [b]) = boxesOf l ++ [decide (b = 98)] := by simp [boxesOf]
/-- The iterator moved on. -/
theorem BxIn.moved {s : ByteArray} {w wr : World} {bv : Value} {k : Nat} (h : BxIn s w wr bv k) (k2 : Nat) :
    (wr.iterAt (w.heap.size + 1) s k2).heap[w.heap.size + 1]? = some (.stringIter s k2) ∧ OwnB (wr.iterAt (w.heap.size + 1) s k2) w.heap.size bv (boxesOf (s.data.toList.take k)) ∧ Below w.heap.size w (wr.iterAt (w.heap.size + 1) s k2) ∧ (wr.iterAt (w.heap.size + 1) s k2).heap.size = wr.heap.size := by
  have hn := row_ne_iter h.own h.iter
  refine ⟨Lib.iterAt_heap wr _ s k k2 h.iter, ownsRow_block h.own (fun b hb => ?_), Lib.below_iterAt h.below (by omega) s k2, Lib.iterAt_size _ _ _ _⟩
  exact Lib.iterAt_other wr _ b s k2 (fun e => hn (by rw [hb, e]))

end Go.Proofs.YtgedcalplfnjmaaDoor
