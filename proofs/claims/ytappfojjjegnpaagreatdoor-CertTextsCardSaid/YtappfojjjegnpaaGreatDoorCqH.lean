/-
  A heap in memory: the block of its three fields, the row of its items, what lies outside both. Conditions: none.
  Small runs that the heaps' walks lay ahead: a function against nil, clear of one element. Conditions: none.
  Append to a row of the call's own, as one step of a region that draws its order; a row made shorter. Conditions: the bounds of a row.
  The heap of int: which of two items comes ahead, two items exchanged. Conditions: the function that the heap holds tells a strict weak order.
  The heap of int: two items exchanged. Conditions: both places lie in the row.
  The heap of int: an item rises, an item sinks. Conditions: the row is a heap but for that item.
  The heap of int: the top dropped, one thing pushed. Conditions: at most a million things; the row is a heap.
  The heap of int: one thing pushed. Conditions: at most a million were pushed.
  The heap of int: a new one, how many, the top, the least one popped, a nil one. Conditions: at most a million were pushed.
  The heap of int: the least one popped, a nil heap. Conditions: at most a million were pushed.
-/
import Derived.Test.YtappfojjjegnpaaGreatDoorBase
import Derived.Test.YtappfojjjegnpaaGreatDoorHeapM
import Derived.OneCell
import Derived.Laws.OwnMore
import Derived.Lib.SliceRun
import Derived.Deep.RegionLaw
import Derived.Test.YtappfojjjegnpaaGreatDoorAppend
import Derived.BigRegion
import Derived.Deep.RegionWith
import Derived.Shelf.Abstract
import Derived.LoopTactic
import Derived.Handy
namespace Go.Proofs.YtappfojjjegnpaaGreatDoor
open Go.RowKit

/-- What lies outside the blocks of S reads as it did. -/
structure Out (S : Nat → Prop) (w w' : World) : Prop where
  os : w'.os = w.os
  tape : w'.tape = w.tape
  output : w'.output = w.output
  size : w.heap.size ≤ w'.heap.size
  block : ∀ k, k < w.heap.size → ¬ S k → w'.heap[k]? = w.heap[k]?

theorem Out.refl (S : Nat → Prop) (w : World) : Out S w w := ⟨rfl, rfl, rfl, Nat.le_refl _, fun _ _ _ => rfl⟩
theorem Out.trans {S S' : Nat → Prop} {a b c : World} (h : Out S a b) (k : Out S' b c) (hS : ∀ i, i < a.heap.size → S' i → S i) : Out S a c :=
  ⟨k.os.trans h.os, k.tape.trans h.tape, k.output.trans h.output, Nat.le_trans h.size k.size, fun i hi hn =>
    (k.block i (Nat.lt_of_lt_of_le hi h.size) (fun e => hn (hS i hi e))).trans (h.block i hi hn)⟩
theorem Out.mono {S S' : Nat → Prop} {a b : World} (h : Out S a b) (hS : ∀ i, i < a.heap.size → S i → S' i) : Out S' a b :=
  ⟨h.os, h.tape, h.output, h.size, fun i hi hn => h.block i hi (fun e => hn (hS i hi e))⟩
theorem Out.ofBelow {S : Nat → Prop} {w w' : World} (h : RowKit.Below w.heap.size w w') : Out S w w' := ⟨h.os, h.tape, h.output, h.size, fun k hk _ => h.block k hk⟩
theorem Out.below {S : Nat → Prop} {w w' : World} {B : Nat} (h : Out S w w') (hB : B ≤ w.heap.size) (hS : ∀ i, i < w.heap.size → S i → B ≤ i) : RowKit.Below B w w' :=
  ⟨h.os, h.tape, h.output, h.size, fun k hk => h.block k (by omega) (fun e => by have := hS k (by omega) e; omega)⟩
theorem Out.drew {S : Nat → Prop} {a w : World} (h : Out S a w) : Out S a w.drew := ⟨h.os, h.tape, h.output, h.size, h.block⟩
theorem Out.alloc {S : Nat → Prop} {a w : World} (h : Out S a w) (o : Obj) : Out S a (w.alloc o) :=
  h.trans (S' := fun _ => False) ⟨rfl, rfl, rfl, by simp, fun k hk _ => Below.heap_alloc _ _ _ hk⟩ (fun _ _ e => e.elim)
theorem Out.setCell {S : Nat → Prop} {a w : World} (h : Out S a w) {p : Addr} (hp : p.block < a.heap.size → S p.block) (u : Value) : Out S a (w.setCell p u) :=
  h.trans (S' := fun i => i = p.block) ⟨rfl, rfl, rfl, by simp [World.setCell], fun k _ hn => Below.heap_setCell _ _ _ _ hn⟩ (fun i hi e => by subst e; exact hp hi)
theorem Out.setIn {g : Nat} {a w : World} (h : Out (fun b => b = g) a w) (o : Nat) (u : Value) : Out (fun b => b = g) a (w.setCell ⟨g, o, none⟩ u) := h.setCell (fun _ => rfl) u
theorem Out.grown {S : Nat → Prop} {a w w' : World} {row : Option Nat} (h : Out S a w) (hg : w.grownBy w' row) (hr : ∀ k, k < a.heap.size → row = some k → S k) : Out S a w' :=
  h.trans (S' := fun i => row = some i) ⟨hg.os, hg.tape, hg.output, hg.size, fun k hk hn => hg.block k hk (fun e => hn e.symm)⟩ (fun i hi e => hr i hi e)

theorem Out.cell {S : Nat → Prop} {a w : World} (h : Out S a w) {b : Nat} (o : Nat) (hb : b < a.heap.size) (hn : ¬ S b) : w.cell? ⟨b, o, none⟩ = a.cell? ⟨b, o, none⟩ := World.cell?_of_block (w := a) (h.block b hb hn)
theorem Out.frz {S : Nat → Prop} {a w : World} (h : Out S a w) {b : Nat} (o : Nat) (hb : b < a.heap.size) (hn : ¬ S b) : w.frozen? ⟨b, o, none⟩ = a.frozen? ⟨b, o, none⟩ := World.frozen?_of_block (w := a) (h.block b hb hn)

theorem ownsRow_block {w w' : World} {base : Nat} {e : TypeId} {size n : Nat} {v : Value} {xs : List Value} (h : w.ownsRow base e size v n xs) (hb : ∀ b, v.ownBlock = some b → w'.heap[b]? = w.heap[b]?) : w'.ownsRow base e size v n xs := by
  obtain ⟨h1, h2⟩ := h
  refine ⟨h1, ?_⟩
  rcases h2 with h2 | ⟨g, cap, cur, hv, hg, hh, r⟩
  · exact Or.inl h2
  · subst hv
    exact Or.inr ⟨g, cap, cur, rfl, hg, by rw [hb g rfl]; exact hh, r⟩
theorem ownsRow_out {w w' : World} {base : Nat} {e : TypeId} {size n : Nat} {v : Value} {xs : List Value} {S : Nat → Prop} (h : w.ownsRow base e size v n xs) (o : Out S w w') (hv : ∀ b, v.ownBlock = some b → ¬ S b) : w'.ownsRow base e size v n xs :=
  ownsRow_block h fun b hb => o.block b (h.lt b hb).2 (hv b hb)

/-- A heap's fields and its row. -/
structure HeapMem (w : World) (T E : TypeId) (k p : Nat) (f v : Value) (n : Nat) (xs : List Value) (c : Int) : Prop where
  blk : w.heap[p]? = some (.cells #[f, v, .int .i64 c] T (0, 0))
  row : w.ownsRow 0 E k v n xs
  apart : v.ownBlock ≠ some p

variable {w w' : World} {T E : TypeId} {k p n : Nat} {f v : Value} {xs : List Value} {c : Int} {S : Nat → Prop}
theorem HeapMem.lt (h : HeapMem w T E k p f v n xs c) : p < w.heap.size := (Array.getElem?_eq_some_iff.1 h.blk).1
theorem HeapMem.out (h : HeapMem w T E k p f v n xs c) (o : Out S w w') (hp : ¬ S p) (hv : ∀ b, v.ownBlock = some b → ¬ S b) : HeapMem w' T E k p f v n xs c :=
  ⟨by rw [o.block p h.lt hp]; exact h.blk, ownsRow_out h.row o hv, h.apart⟩
theorem HeapMem.below (h : HeapMem w T E k p f v n xs c) (o : RowKit.Below w.heap.size w w') : HeapMem w' T E k p f v n xs c :=
  h.out (S := fun _ => False) (Out.ofBelow o) (fun e => e) (fun _ _ e => e)
theorem HeapMem.drew (h : HeapMem w T E k p f v n xs c) : HeapMem w.drew T E k p f v n xs c := h.below ((Below.refl _ _).drew)
theorem HeapMem.c0 (h : HeapMem w T E k p f v n xs c) : w.cell? ⟨p, 0, none⟩ = some f := by simp [World.cell?, h.blk]
theorem HeapMem.c1 (h : HeapMem w T E k p f v n xs c) : w.cell? ⟨p, 1, none⟩ = some v := by simp [World.cell?, h.blk]
theorem HeapMem.c2 (h : HeapMem w T E k p f v n xs c) : w.cell? ⟨p, 2, none⟩ = some (.int .i64 c) := by simp [World.cell?, h.blk]
theorem HeapMem.fr (h : HeapMem w T E k p f v n xs c) (j : Nat) : w.frozen? ⟨p, j, none⟩ = false := by
  simp only [World.frozen?, h.blk]
  simp
theorem HeapMem.len (h : HeapMem w T E k p f v n xs c) : xs.length = n * k := h.row.1
theorem HeapMem.form (h : HeapMem w T E k p f v n xs c) (h0 : 0 < n) : ∃ g cap, v = .slice (some ⟨g, 0, none⟩) n cap ∧ n ≤ cap ∧ cap ≤ maxLen ∧ g ≠ p ∧ g < w.heap.size := by
  rcases h.row.2 with ⟨_, h2⟩ | ⟨g, cap, cur, hv, hg, hh, hn, hc, r⟩
  · omega
  · refine ⟨g, cap, hv, hn, hc, fun e => ?_, (Array.getElem?_eq_some_iff.1 hh).1⟩
    apply h.apart
    rw [hv, e]; rfl
theorem HeapMem.form0 (h : HeapMem w T E k p f v n xs c) : ∃ ao cap, v = .slice ao n cap ∧ n ≤ cap ∧ cap ≤ maxLen := by
  rcases h.row.2 with ⟨h1, h2⟩ | ⟨g, cap, cur, hv, hg, hh, hn, hc, r⟩
  · subst h2; exact ⟨_, _, h1, Nat.le_refl _, by simp [maxLen]⟩
  · exact ⟨_, _, hv, hn, hc⟩
theorem HeapMem.cell {g cap : Nat} (h : HeapMem w T E k p f (.slice (some ⟨g, 0, none⟩) n cap) n xs c) (j : Nat) (hj : j < n * k) : w.cell? ⟨g, j, none⟩ = some (xs.getD j default) := by
  rw [h.row.cellAt j hj, List.getD_eq_getElem?_getD, List.getElem?_eq_getElem (by rw [h.len]; exact hj)]
  rfl
theorem HeapMem.frz {g cap : Nat} (h : HeapMem w T E k p f (.slice (some ⟨g, 0, none⟩) n cap) n xs c) (j : Nat) : w.frozen? ⟨g, j, none⟩ = false := h.row.frozenAt j
/-- A store into the row. -/
theorem HeapMem.stored {g cap : Nat} (h : HeapMem w T E k p f (.slice (some ⟨g, 0, none⟩) n cap) n xs c) (j : Nat) (u : Value) : HeapMem (w.setCell ⟨g, j, none⟩ u) T E k p f (.slice (some ⟨g, 0, none⟩) n cap) n (xs.set j u) c := by
  refine ⟨?_, (h.row.stored j u).1, h.apart⟩
  rw [Below.heap_setCell _ _ _ _ (fun e => h.apart (by subst e; rfl))]
  exact h.blk
theorem heap_setCell_at {w : World} {p : Nat} {cur : Array Value} {T : TypeId} {fz : Nat × Nat} (h : w.heap[p]? = some (.cells cur T fz)) (j : Nat) (u : Value) : (w.setCell ⟨p, j, none⟩ u).heap[p]? = some (.cells (cur.setIfInBounds j u) T fz) := by
  have hlt := (Array.getElem?_eq_some_iff.1 h).1
  have h' : w.heap[p] = .cells cur T fz := by simpa [Array.getElem?_eq_getElem hlt] using h
  show (w.heap.modify p _)[p]? = _
  rw [Array.getElem?_eq_getElem (by simpa using hlt), Array.getElem_modify_self, h']
  rfl
/-- Another number of those that were pushed. -/
theorem HeapMem.count (h : HeapMem w T E k p f v n xs c) (d : Int) : HeapMem (w.setCell ⟨p, 2, none⟩ (.int .i64 d)) T E k p f v n xs d := by
  refine ⟨?_, ownsRow_setCell_other h.row h.apart _, h.apart⟩
  rw [heap_setCell_at h.blk]; rfl
/-- Another row. -/
theorem HeapMem.rowed {v' : Value} {n' : Nat} {xs' : List Value} (hb : w.heap[p]? = some (.cells #[f, v, .int .i64 c] T (0, 0))) (hr : w.ownsRow 0 E k v' n' xs') (ha : v'.ownBlock ≠ some p) : HeapMem (w.setCell ⟨p, 1, none⟩ v') T E k p f v' n' xs' c := by
  refine ⟨?_, ownsRow_setCell_other hr ha _, ha⟩
  rw [heap_setCell_at hb]; rfl

section flat
variable {β : Type} (enc : β → List Value)
theorem flat_len (hk : ∀ x, (enc x).length = k) (l : List β) : (l.flatMap enc).length = l.length * k := by
  induction l with
  | nil => simp
  | cons x t ih => simp [ih, hk, Nat.add_mul]; omega
theorem flat_get [Inhabited β] (hk : ∀ x, (enc x).length = k) (l : List β) (i r : Nat) (hi : i < l.length) (hr : r < k) : (l.flatMap enc).getD (i * k + r) default = (enc (l.getD i default)).getD r default := by
  induction l generalizing i with
  | nil => simp at hi
  | cons x t ih =>
    rw [List.flatMap_cons]
    cases i with
    | zero =>
      simp only [Nat.zero_mul, Nat.zero_add, List.getD_eq_getElem?_getD]
      rw [List.getElem?_append_left (by rw [hk]; exact hr)]
      rfl
    | succ i =>
      have e : (i + 1) * k + r = (enc x).length + (i * k + r) := by rw [hk, Nat.add_mul]; omega
      rw [e, List.getD_eq_getElem?_getD, List.getElem?_append_right (by omega), Nat.add_sub_cancel_left, ← List.getD_eq_getElem?_getD, ih i (by simpa using hi)]
      rfl
/-- A run of stores. -/
def runSet (xs : List Value) (s : Nat) : List Value → List Value
  | [] => xs
  | u :: us => runSet (xs.set s u) (s + 1) us
theorem runSet_eq (us : List Value) : ∀ (xs : List Value) (s : Nat), s + us.length ≤ xs.length → runSet xs s us = xs.take s ++ us ++ xs.drop (s + us.length) := by
  induction us with
  | nil => intro xs s _; simp [runSet]
  | cons u us ih =>
    intro xs s h
    simp at h
    rw [runSet, ih _ _ (by simp; omega)]
    apply List.ext_getElem?
    intro q
    simp only [List.getElem?_append, List.getElem?_take, List.getElem?_drop, List.length_take, List.length_set, List.length_append, List.length_cons, List.getElem?_set, List.getElem?_cons]
    by_cases h1 : q < s
    · simp [h1, show q < s + 1 by omega, show q < xs.length by omega, show ¬ s = q by omega, show q < min (s+1) xs.length by omega, show q < min s xs.length by omega, show q < min (s + 1) xs.length + us.length by omega, show q < min s xs.length + (us.length + 1) by omega]
    · by_cases h2 : q = s
      · subst h2
        simp [show q < q + 1 by omega, show q < min (q+1) xs.length by omega, show ¬ q < min q xs.length by omega, show q < min (q + 1) xs.length + us.length by omega, show q < min q xs.length + (us.length + 1) by omega, show q < xs.length by omega, show q - min q xs.length = 0 by omega]
      · by_cases h3 : q < s + 1 + us.length
        · simp [show ¬ q < min (s+1) xs.length by omega, show ¬ q < min s xs.length by omega, show q < min (s + 1) xs.length + us.length by omega, show q < min s xs.length + (us.length + 1) by omega, show q - min s xs.length ≠ 0 by omega, show q - min s xs.length - 1 = q - min (s + 1) xs.length by omega]
        · simp [show ¬ q < min (s + 1) xs.length + us.length by omega, show ¬ q < min s xs.length + (us.length + 1) by omega]
          rw [if_neg (by omega)]
          congr 1; omega
theorem flat_set (hk : ∀ x, (enc x).length = k) (l : List β) (i : Nat) (hi : i < l.length) (y : β) : runSet (l.flatMap enc) (i * k) (enc y) = (l.set i y).flatMap enc := by
  have hlen := flat_len enc hk l
  have hmul : i * k + k ≤ l.length * k := by
    have := Nat.mul_le_mul_right k (show i + 1 ≤ l.length by omega)
    rw [Nat.add_mul] at this; omega
  rw [runSet_eq _ _ _ (by rw [hk, hlen]; exact hmul), hk]
  clear hlen hmul
  induction l generalizing i with
  | nil => simp at hi
  | cons x t ih =>
    cases i with
    | zero =>
      have e : (enc x).length = k := hk x
      simp [← e]
    | succ i =>
      have e1 : (i + 1) * k = (enc x).length + i * k := by rw [hk, Nat.add_mul]; omega
      have e2 : (enc x).length + i * k + k = (enc x).length + (i * k + k) := by omega
      simp only [List.set_cons_succ, List.flatMap_cons]
      rw [e1, e2, List.take_length_add_append, List.drop_length_add_append, ← ih i (by simpa using hi)]
      simp
theorem flat_take (hk : ∀ x, (enc x).length = k) (l : List β) (m : Nat) : (l.flatMap enc).take (m * k) = (l.take m).flatMap enc := by
  induction l generalizing m with
  | nil => simp
  | cons x t ih =>
    cases m with
    | zero => simp
    | succ m =>
      have e : (m + 1) * k = (enc x).length + m * k := by rw [hk, Nat.add_mul]; omega
      rw [List.flatMap_cons, e, List.take_length_add_append, ih, List.take_succ_cons, List.flatMap_cons]
end flat
end Go.Proofs.YtappfojjjegnpaaGreatDoor

namespace Go.Proofs.YtappfojjjegnpaaGreatDoor
open Go.RowKit
theorem run_equalIn_func_nil {P : Program} (w : World) (d : Nat) (t : TypeId) (a b : Array TypeId) (v : Bool) (fn : Fn) (ps lb : Array Value) (h : P.underlying t = some (.func a b v)) :
    (Op.equalIn (d + 1) t (.func fn ps lb) .nilFunc).run P w = .ok false w := by
  simp [Op.equalIn, run_underlying h]
theorem run_neq_func_nil {P : Program} (w : World) (t : TypeId) (a b : Array TypeId) (v : Bool) (fn : Fn) (ps lb : Array Value) (h : P.underlying t = some (.func a b v)) :
    (binOp .neq t (.func fn ps lb) .nilFunc).run P w = .ok (.bool true) w := by
  simp only [binOp]
  simp [Op.equal, Op.maxDepth, run_equalIn_func_nil w 9999 t a b v fn ps lb h]
/-- 'clear(s)', s of one element. -/
theorem run_clear_one {P : Program} (w : World) (t e ty : TypeId) (z : Value) (zs : List Value) (ht : P.underlying t = some (.slice e)) (hv : ∀ w, (zeroValue e).run P w = .ok z w) (hz : (Builtin.zeroCells z.cells 1).toList = zs) (h1 : ∀ v ∈ zs, v.oneCell' = true) (b o c : Nat)
    (hc : ∀ j, j < zs.length → (w.cell? ⟨b, o + j, none⟩).isSome = true) (hf : ∀ j, j < zs.length → w.frozen? ⟨b, o + j, none⟩ = false) :
    (Builtin.clear_ #[t] ty #[.slice (some ⟨b, o, none⟩) 1 c]).run P w = .ok (.tuple #[]) (w.setCells b o zs) := by
  have hst := run_storeCells_cells (P := P) b o zs 0 w (by simpa using hc) (by simpa using hf) h1
  simp only [Nat.add_zero] at hst
  simp [Builtin.clear_, run_underlying ht, hv, hz, hst]
end Go.Proofs.YtappfojjjegnpaaGreatDoor

namespace Go
theorem ownsRow_form {w : World} {base : Nat} {e : TypeId} {size n : Nat} {v : Value} {xs : List Value} (h : w.ownsRow base e size v n xs) (h0 : 0 < n) : ∃ g cap, v = .slice (some ⟨g, 0, none⟩) n cap ∧ base ≤ g ∧ g < w.heap.size ∧ n ≤ cap := by
  rcases h.2 with ⟨_, h2⟩ | ⟨g, cap, cur, hv, hg, hh, hn, hc, r⟩
  · omega
  · exact ⟨g, cap, hv, hg, (Array.getElem?_eq_some_iff.1 hh).1, hn⟩
theorem ownsRow_shorter {w : World} {base : Nat} {e : TypeId} {size n m g cap : Nat} {xs : List Value} (h : w.ownsRow base e size (.slice (some ⟨g, 0, none⟩) n cap) n xs) (hm : m ≤ n) : w.ownsRow base e size (.slice (some ⟨g, 0, none⟩) m cap) m (xs.take (m * size)) := by
  obtain ⟨h1, h2⟩ := h
  have hms : m * size ≤ n * size := Nat.mul_le_mul_right _ hm
  refine ⟨by rw [List.length_take, h1]; omega, ?_⟩
  rcases h2 with ⟨h2, _⟩ | ⟨g', cap', cur, hv, hg, hh, hn, hc, hz, ht⟩
  · simp at h2
  · simp only [Value.slice.injEq, Option.some.injEq, Addr.mk.injEq, and_true, true_and] at hv
    obtain ⟨rfl, rfl⟩ := hv
    exact Or.inr ⟨g, cap, cur, rfl, hg, hh, by omega, hc, hz, by rw [← ht, List.take_take]; congr 1; omega⟩
end Go
namespace Go.Proofs.YtappfojjjegnpaaGreatDoor
open Go.RowKit
/-- Behind the append: the heap's block as it was, the longer row. -/
structure Longer (W w1 : World) (T E k p : Nat) (f v : Value) (n : Nat) (xs : List Value) (c : Int) (g cap : Nat) : Prop where
  blk : w1.heap[p]? = some (.cells #[f, v, .int .i64 c] T (0, 0))
  row : w1.ownsRow 0 E k (.slice (some ⟨g, 0, none⟩) n cap) n xs
  grow : W.grownBy w1 v.ownBlock
  apart : g ≠ p
  fresh : v.ownBlock = some g ∨ W.heap.size ≤ g
variable {W w1 : World} {T E k p : Nat} {f v : Value} {n : Nat} {xs : List Value} {c : Int} {g cap : Nat}
theorem Longer.k1 (h : Longer W w1 T E k p f v n xs c g cap) : w1.cell? ⟨p, 1, none⟩ = some v := by simp [World.cell?, h.blk]
theorem Longer.k2 (h : Longer W w1 T E k p f v n xs c g cap) : w1.cell? ⟨p, 2, none⟩ = some (.int .i64 c) := by simp [World.cell?, h.blk]
theorem Longer.e1 (h : Longer W w1 T E k p f v n xs c g cap) : w1.frozen? ⟨p, 1, none⟩ = false := by simp only [World.frozen?, h.blk]; simp
theorem Longer.e2 (h : Longer W w1 T E k p f v n xs c g cap) : w1.frozen? ⟨p, 2, none⟩ = false := by simp only [World.frozen?, h.blk]; simp
/-- Behind the two stores: the heap with its longer row, one more pushed. -/
theorem Longer.mem (h : Longer W w1 T E k p f v n xs c g cap) (d : Int) : HeapMem ((w1.setCell ⟨p, 1, none⟩ (.slice (some ⟨g, 0, none⟩) n cap)).setCell ⟨p, 2, none⟩ (.int .i64 d)) T E k p f (.slice (some ⟨g, 0, none⟩) n cap) n xs d :=
  (HeapMem.rowed h.blk h.row (fun e => h.apart (by simpa [Value.ownBlock] using e))).count d

theorem step_push {P : Program} {ops : Array Oper} {o : Oper} {a : Act} {w W : World} {K : Act → World → Prop} {Q : Exit → Act → World → Prop} {F : Prop}
    (hg : o.guard = none) (s x : Operand) (t : TypeId) (hop : o.op = Op.call { callee := Callee.builtin Builtin.append, args := #[s, x], argTypes := #[t, t] })
    (T E : TypeId) (i : TypeInfo) (z : Value) (k bytes : Nat) (h1 : P.underlying t = some (.slice E)) (h2 : P.info? E = some i) (h3 : i.zero = some z) (h4 : i.size = k) (h5 : i.bytes = bytes) (h6 : z.cells.size = k) (h7 : 0 < k)
    (p n : Nat) (f v : Value) (xs : List Value) (c : Int) (h : HeapMem w T E k p f v n xs c) (hb : RowKit.Below w.heap.size w W) (hs : a.eval s = v)
    (ad : Addr) (cp : Nat) (news : List Value) (hx : a.eval x = .slice (some ad) 1 cp) (hn : news.length = k) (hc : ∀ j u, news[j]? = some u → W.cell? (ad.add j) = some u) (h1c : ∀ u ∈ news, u.oneCell' = true)
    (b1 : n + 1 ≤ maxLen) (b2 : (n + 1) * bytes ≤ 140737488355328)
    (hK : ∀ g cap w1, Longer W w1 T E k p f v (n + 1) (xs ++ news) c g cap → K (a.put o.dst (.slice (some ⟨g, 0, none⟩) (n + 1) cap)) w1) :
    if Region.wanted o (yielded ops a.tmps) = true then Oper.wp P o a W K Q else F := by
  have H := h.below hb
  refine step_append_fresh hg s x t hop 0 E i z k bytes h1 h2 h3 h4 h5 h6 h7 v n xs hs H.row ad 1 cp news hx (by rw [hn, Nat.one_mul]) hc h1c b1 b2 (Nat.zero_le _) fun v' w1 hown hgrow hfr => ?_
  obtain ⟨g, cap, rfl, _, hgs, _⟩ := ownsRow_form hown (by omega)
  have hf := hfr g rfl
  refine hK g cap w1 ⟨(hgrow.block p H.lt (fun e => h.apart e.symm)).trans H.blk, hown, hgrow, fun e => ?_, hf⟩
  subst e
  rcases hf with hf | hf
  · exact h.apart hf
  · have := H.lt; omega
end Go.Proofs.YtappfojjjegnpaaGreatDoor

namespace Go.Proofs.YtappfojjjegnpaaGreatDoor.HI
open Go.RowKit Go.Proofs.YtappfojjjegnpaaGreatDoor.HeapM

/-- An item's cells. -/
def enc (x : Int × Int) : List Value := [.int .i64 x.1] ++ [.int .i64 x.2]
theorem enc_len (x : Int × Int) : (enc x).length = 2 := rfl

/-- What the heap's function tells. -/
structure LessAt (fn : Nat) (lt : Int → Int → Bool) : Prop where
  eg : ∀ args w, (callFunc fn args).run Tryz.prog w = .ok (.enter fn args) w
  calls : ∀ (W : World) (x y : Int), Calls Tryz.prog fn #[(.int .i64 x), (.int .i64 y)] W fun e W' => e = .returned (.bool (lt x y)) ∧ Below W.heap.size W W'
  ord : Ord lt
variable {fn : Nat} {lt : Int → Int → Bool}

set_option maxHeartbeats 400000 in
set_option maxRecDepth 100000 in
theorem isLess (hL : LessAt fn lt) (p : Nat) (x y : Int) (w : World) (_hp : p < w.heap.size) (h0 : w.cell? ⟨p, 0, none⟩ = some (.func (.func fn) #[] #[])) :
    Calls Tryz.prog 99 #[.pointer (some ⟨p, 0, none⟩), (.int .i64 x), (.int .i64 y)] w fun e w' => e = .returned (.bool (lt x y)) ∧ Below w.heap.size w w' := by
  have HL := Lib.hid hL.calls
  have eg := hL.eg
  clear hL
  have hnf := fun (w : World) => run_neq_func_nil (P := Tryz.prog) w 125 _ _ _ (.func fn) #[] #[] Tryz.underlying125
  go_enter Tryz.func99, Tryz.ntmps99
  go_wp2_with (go_at_fn fn; refine (HL.out _ x y).mono ?_; rintro e w1 ⟨rfl, hb⟩)
  all_goals
    go_wp2
    go_ret
    exact ⟨rfl, hb⟩

theorem cells_at {w : World} {T E p n g cap : Nat} {f : Value} {l : List (Int × Int)} {c : Int} (h : HeapMem w T E 2 p f (.slice (some ⟨g, 0, none⟩) n cap) l.length (l.flatMap enc) c) (hn : n = l.length) (i : Nat) (hi : i < l.length) (r : Nat) (hr : r < 2) : w.cell? ⟨g, i * 2 + r, none⟩ = some ((enc (at_ l i)).getD r default) := by
  subst hn
  have hm : i * 2 + r < l.length * 2 := by omega
  rw [h.cell _ hm, flat_get enc enc_len l i r hi hr]
  rfl

set_option maxHeartbeats 400000 in
set_option maxRecDepth 100000 in
theorem ahead (hL : LessAt fn lt) (T E p g n cap i j : Nat) (l : List (Int × Int)) (c : Int) (w : World) (h : HeapMem w T E 2 p (.func (.func fn) #[] #[]) (.slice (some ⟨g, 0, none⟩) n cap) l.length (l.flatMap enc) c)
    (hn : n = l.length) (hs : l.length ≤ 1000000) (hi : i < l.length) (hj : j < l.length) :
    Calls Tryz.prog 95 #[.pointer (some ⟨p, 0, none⟩), .int .i64 i, .int .i64 j] w fun e w' => e = .returned (.bool (ahd lt (at_ l i) (at_ l j))) ∧ Below w.heap.size w w' := by
  have hps := h.lt
  have hgs := (h.row.lt g rfl).2
  have hpg : g ≠ p := fun e => h.apart (by subst e; rfl)
  have h0 := h.c0
  have h1 := h.c1
  have hA := Lib.hid (cells_at h hn i hi)
  have hB := Lib.hid (cells_at h hn j hj)
  have hi' : i < n := by omega
  have hj' : j < n := by omega
  have hn' : n ≤ 1000000 := by omega
  clear h hn hs hi hj
  generalize at_ l i = x at *
  generalize at_ l j = y at *
  have a0 : w.cell? ⟨g, i * 2, none⟩ = some (.int .i64 x.1) := hA.out 0 (by omega)
  have a1 : w.cell? ⟨g, i * 2 + 1, none⟩ = some (.int .i64 x.2) := hA.out 1 (by omega)
  have b0 : w.cell? ⟨g, j * 2, none⟩ = some (.int .i64 y.1) := hB.out 0 (by omega)
  have b1 : w.cell? ⟨g, j * 2 + 1, none⟩ = some (.int .i64 y.2) := hB.out 1 (by omega)
  clear hA hB
  have hL' := Lib.hid hL
  clear hL
  by_cases hlt : x.2 < y.2
  · have e1 : ahd lt x y = !lt y.1 x.1 := by unfold ahd; rw [if_pos hlt]
    rw [e1]
    clear e1
    go_enter Tryz.func95, Tryz.ntmps95
    go_wp2
    go_region
    all_goals
      go_wp2_with (go_at_call 99; refine (isLess hL'.out _ y.1 x.1 _ (by simp; omega) (by go_simp)).mono ?_; rintro e w1 ⟨rfl, hb⟩)
      go_ret
      exact ⟨rfl, (((Below.refl _ _).alloc (Nat.le_refl _) _).alloc (by simp) _).drew.trans (hb.mono (by simp; omega))⟩
  · have e1 : ahd lt x y = lt x.1 y.1 := by unfold ahd; rw [if_neg hlt]
    rw [e1]
    clear e1
    go_enter Tryz.func95, Tryz.ntmps95
    go_wp2
    go_region
    all_goals
      go_wp2_with (go_at_call 99; refine (isLess hL'.out _ x.1 y.1 _ (by simp; omega) (by go_simp)).mono ?_; rintro e w1 ⟨rfl, hb⟩)
      go_ret
      exact ⟨rfl, (((Below.refl _ _).alloc (Nat.le_refl _) _).alloc (by simp) _).drew.trans (hb.mono (by simp; omega))⟩

end Go.Proofs.YtappfojjjegnpaaGreatDoor.HI

namespace Go.Proofs.YtappfojjjegnpaaGreatDoor.HI
open Go.RowKit Go.Proofs.YtappfojjjegnpaaGreatDoor.HeapM

theorem runSet_swap (l : List (Int × Int)) (i j : Nat) (hi : i < l.length) (hj : j < l.length) : runSet (runSet (l.flatMap enc) (i * 2) (enc (at_ l j))) (j * 2) (enc (at_ l i)) = (sw l i j).flatMap enc := by
  rw [flat_set enc enc_len l i hi, flat_set enc enc_len _ j (by simpa using hj)]
  rfl

set_option maxHeartbeats 2000000 in
set_option maxRecDepth 100000 in
theorem swap (T E p g n cap i j : Nat) (l : List (Int × Int)) (f : Value) (c : Int) (w : World) (h : HeapMem w T E 2 p f (.slice (some ⟨g, 0, none⟩) n cap) l.length (l.flatMap enc) c)
    (hn : n = l.length) (hs : l.length ≤ 1000000) (hi : i < l.length) (hj : j < l.length) (hij : i ≠ j) :
    Calls Tryz.prog 96 #[.pointer (some ⟨p, 0, none⟩), .int .i64 i, .int .i64 j] w fun e w' => e = .returned (.tuple #[]) ∧
      HeapMem w' T E 2 p f (.slice (some ⟨g, 0, none⟩) n cap) (sw l i j).length ((sw l i j).flatMap enc) c ∧ Out (fun b => b = g) w w' := by
  have H := Lib.hid h
  have hpg : g ≠ p := fun e => h.apart (by subst e; rfl)
  have h1 := h.c1
  have hA := Lib.hid (cells_at h hn i hi)
  have hB := Lib.hid (cells_at h hn j hj)
  have hF := Lib.hid (fun q => (show HeapMem w T E 2 p f (.slice (some ⟨g, 0, none⟩) l.length cap) l.length (l.flatMap enc) c from hn ▸ h).frz q)
  have hS := Lib.hid (runSet_swap l i j hi hj)
  have hi' : i < n := by omega
  have hj' : j < n := by omega
  have hn' : n ≤ 1000000 := by omega
  have HN := Lib.hid hn
  clear h hn hs hi hj
  generalize at_ l i = x at *
  generalize at_ l j = y at *
  have a0 : w.cell? ⟨g, i * 2, none⟩ = some (.int .i64 x.1) := hA.out 0 (by omega)
  have fa0 := hF.out (i * 2)
  have a1 : w.cell? ⟨g, i * 2 + 1, none⟩ = some (.int .i64 x.2) := hA.out 1 (by omega)
  have fa1 := hF.out (i * 2 + 1)
  have b0 : w.cell? ⟨g, j * 2, none⟩ = some (.int .i64 y.1) := hB.out 0 (by omega)
  have fb0 := hF.out (j * 2)
  have b1 : w.cell? ⟨g, j * 2 + 1, none⟩ = some (.int .i64 y.2) := hB.out 1 (by omega)
  have fb1 := hF.out (j * 2 + 1)
  clear hA hB hF
  go_enter Tryz.func96, Tryz.ntmps96
  go_region
  all_goals
    go_wp2
    go_end0
    refine ⟨rfl, ?_, ?_⟩
    · refine HeapMem.drew ?_
      rw [sw_length, ← hS.out]
      have hh : HeapMem w T E 2 p f (.slice (some ⟨g, 0, none⟩) l.length cap) l.length (l.flatMap enc) c := HN.out ▸ H.out
      obtain rfl := HN.out
      exact (((hh.stored _ _).stored _ _).stored _ _).stored _ _
    · repeat (first | with_reducible refine Out.drew ?_ | with_reducible refine Out.setIn ?_ _ _)
      with_reducible exact Out.refl _ _
end Go.Proofs.YtappfojjjegnpaaGreatDoor.HI

namespace Go.Proofs.YtappfojjjegnpaaGreatDoor.HI
open Go.RowKit Go.Proofs.YtappfojjjegnpaaGreatDoor.HeapM
variable {fn : Nat} {lt : Int → Int → Bool}

/-- Which comes ahead, told. -/
theorem aheadZ (hL : LessAt fn lt) {T E p g n cap : Nat} {l : List (Int × Int)} {c : Int} {w : World} (h : HeapMem w T E 2 p (.func (.func fn) #[] #[]) (.slice (some ⟨g, 0, none⟩) n cap) l.length (l.flatMap enc) c)
    (hn : n = l.length) (hs : n ≤ 1000000) (i j : Int) (a b : Nat) (ei : i = a) (ej : j = b) (hi : a < n) (hj : b < n) (r : Bool) (hr : ahd lt (at_ l a) (at_ l b) = r) :
    Calls Tryz.prog 95 #[.pointer (some ⟨p, 0, none⟩), .int .i64 i, .int .i64 j] w fun e w' => e = .returned (.bool r) ∧ Below w.heap.size w w' := by
  subst ei ej hr
  exact ahead hL T E p g n cap a b l c w h hn (by omega) (by omega) (by omega)
theorem swapZ {T E p g n cap : Nat} {l : List (Int × Int)} {f : Value} {c : Int} {w : World} (h : HeapMem w T E 2 p f (.slice (some ⟨g, 0, none⟩) n cap) l.length (l.flatMap enc) c)
    (hn : n = l.length) (hs : n ≤ 1000000) (i j : Int) (a b : Nat) (ei : i = a) (ej : j = b) (hi : a < n) (hj : b < n) (hij : a ≠ b) :
    Calls Tryz.prog 96 #[.pointer (some ⟨p, 0, none⟩), .int .i64 i, .int .i64 j] w fun e w' => e = .returned (.tuple #[]) ∧
      HeapMem w' T E 2 p f (.slice (some ⟨g, 0, none⟩) n cap) (sw l a b).length ((sw l a b).flatMap enc) c ∧ Out (fun b => b = g) w w' := by
  subst ei ej
  exact swap T E p g n cap a b l f c w h hn (by omega) (by omega) (by omega) hij

/-- A row that has the same items, in another order. -/
structure Row (lt : Int → Int → Bool) (fn T E p g n cap : Nat) (l : List (Int × Int)) (c : Int) (w wr : World) (l' : List (Int × Int)) : Prop where
  len : n = l'.length
  perm : l'.Perm l
  mem : HeapMem wr T E 2 p (.func (.func fn) #[] #[]) (.slice (some ⟨g, 0, none⟩) n cap) l'.length (l'.flatMap enc) c
  out : Out (fun b => b = g) w wr
def Done (lt : Int → Int → Bool) (fn T E p g n cap : Nat) (l : List (Int × Int)) (c : Int) (w : World) (e : Ending) (w' : World) : Prop :=
  e = .returned (.tuple #[]) ∧ ∃ l', Row lt fn T E p g n cap l c w w' l' ∧ Hp lt l'
def RiseRel (lt : Int → Int → Bool) (fn T E p g n cap : Nat) (l : List (Int × Int)) (c : Int) (w wr : World) (iv : Value) : Prop :=
  ∃ (i : Nat) (l' : List (Int × Int)), iv = .int .i64 i ∧ i < n ∧ Row lt fn T E p g n cap l c w wr l' ∧ HpR lt l' i
def SinkRel (lt : Int → Int → Bool) (fn T E p g n cap : Nat) (l : List (Int × Int)) (c : Int) (w wr : World) (iv : Value) : Prop :=
  ∃ (i : Nat) (l' : List (Int × Int)), iv = .int .i64 i ∧ i ≤ n ∧ Row lt fn T E p g n cap l c w wr l' ∧ HpS lt l' i
theorem Row.step {T E p g n cap : Nat} {l l' : List (Int × Int)} {c : Int} {w wr w1 w2 : World} (R : Row lt fn T E p g n cap l c w wr l') (hb : Below wr.heap.size wr w1) {a b : Nat} (ha : a < n) (hb' : b < n)
    (hm : HeapMem w2 T E 2 p (.func (.func fn) #[] #[]) (.slice (some ⟨g, 0, none⟩) n cap) (sw l' a b).length ((sw l' a b).flatMap enc) c) (ho : Out (fun b => b = g) w1 w2) : Row lt fn T E p g n cap l c w w2 (sw l' a b) :=
  ⟨by rw [sw_length]; exact R.len, (sw_perm l' (by have := R.len; omega) (by have := R.len; omega)).trans R.perm, hm, (R.out.trans (Out.ofBelow (S := fun b => b = g) hb) (fun _ _ e => e)).trans ho (fun _ _ e => e)⟩
theorem Row.below {T E p g n cap : Nat} {l l' : List (Int × Int)} {c : Int} {w wr w1 : World} (R : Row lt fn T E p g n cap l c w wr l') (hb : Below wr.heap.size wr w1) : Row lt fn T E p g n cap l c w w1 l' :=
  ⟨R.len, R.perm, R.mem.below hb, R.out.trans (Out.ofBelow (S := fun b => b = g) hb) (fun _ _ e => e)⟩

set_option maxHeartbeats 1000000 in
theorem rise (hL : LessAt fn lt) (T E p g n cap i : Nat) (l : List (Int × Int)) (c : Int) (w : World) (h : HeapMem w T E 2 p (.func (.func fn) #[] #[]) (.slice (some ⟨g, 0, none⟩) n cap) l.length (l.flatMap enc) c)
    (hn : n = l.length) (hs : n ≤ 1000000) (hi : i < n) (hR : HpR lt l i) :
    Calls Tryz.prog 92 #[.pointer (some ⟨p, 0, none⟩), .int .i64 i] w (Done lt fn T E p g n cap l c w) := by
  have H0 := Lib.hid h
  have HN := Lib.hid hn
  have HR := Lib.hid hR
  have HL := Lib.hid hL
  clear h hn hR hL
  go_enter Tryz.func92, Tryz.ntmps92
  go_wp2
  go_loopw [1] (fun iv wr => RiseRel lt fn T E p g n cap l c w wr iv) (fun iv _ => (intOf iv).toNat)
  case atStart => exact ⟨i, l, rfl, hi, ⟨HN.out, List.Perm.refl _, H0.out, Out.refl _ _⟩, HR.out⟩
  case round =>
    clear hi
    obtain ⟨i, l', rfl, hi, R, hR⟩ := hrel
    have R := Lib.hid R
    have HR := Lib.hid hR
    clear hR
    by_cases h0 : 0 < i
    · cases hb : ahd lt (at_ l' i) (at_ l' ((i - 1) / 2))
      · have HB := Lib.hid hb
        clear hb
        go_wp2_with (go_at_call 95; refine (aheadZ HL.out R.out.mem R.out.len hs _ _ i ((i - 1) / 2) (by omega) (by omega) (by omega) (by omega) false HB.out).mono ?_; rintro e w1 ⟨rfl, hb1⟩)
        go_end0
        exact ⟨rfl, l', R.out.below hb1, rise_done HR.out HB.out⟩
      · have HB := Lib.hid hb
        clear hb
        go_wp2_with (first
          | (go_at_call 95; refine (aheadZ HL.out R.out.mem R.out.len hs _ _ i ((i - 1) / 2) (by omega) (by omega) (by omega) (by omega) true HB.out).mono ?_; rintro e w1 ⟨rfl, hb1⟩; have B1 := Lib.hid hb1; clear hb1)
          | (go_at_call 96; refine (swapZ (R.out.mem.below B1.out) R.out.len hs _ _ i ((i - 1) / 2) (by omega) (by omega) (by omega) (by omega) (by omega)).mono ?_; rintro e w2 ⟨rfl, hm, ho⟩; have M2 := Lib.hid hm; have O2 := Lib.hid ho; clear hm ho))
        go_roundw
        case rel => exact ⟨(i - 1) / 2, sw l' i ((i - 1) / 2), by go_num, by omega, R.out.step B1.out (by omega) (by omega) M2.out O2.out, rise_step HL.out.ord HR.out h0 (by have := R.out.len; omega) HB.out⟩
        case measure => simp [intOf]; omega
    · go_wp2
      go_end0
      exact ⟨rfl, l', R.out, rise_done0 HR.out (by omega)⟩

set_option maxHeartbeats 2000000 in
theorem sink (hL : LessAt fn lt) (T E p g n cap i : Nat) (l : List (Int × Int)) (c : Int) (w : World) (h : HeapMem w T E 2 p (.func (.func fn) #[] #[]) (.slice (some ⟨g, 0, none⟩) n cap) l.length (l.flatMap enc) c)
    (hn : n = l.length) (hs : n ≤ 1000000) (hi : i ≤ n) (hR : HpS lt l i) :
    Calls Tryz.prog 98 #[.pointer (some ⟨p, 0, none⟩), .int .i64 i] w (Done lt fn T E p g n cap l c w) := by
  have H0 := Lib.hid h
  have HN := Lib.hid hn
  have HR := Lib.hid hR
  have HL := Lib.hid hL
  clear h hn hR hL
  go_enter Tryz.func98, Tryz.ntmps98
  go_wp2
  go_loopw [1] (fun iv wr => SinkRel lt fn T E p g n cap l c w wr iv) (fun iv _ => n - (intOf iv).toNat)
  case atStart => exact ⟨i, l, rfl, hi, ⟨HN.out, List.Perm.refl _, H0.out, Out.refl _ _⟩, HR.out⟩
  case round =>
    clear hi
    obtain ⟨i, l', rfl, hi, R, hR⟩ := hrel
    have R := Lib.hid R
    have HR := Lib.hid hR
    have h1 := R.out.mem.c1
    clear hR
    by_cases h0 : n ≤ 2 * i + 1
    · go_wp2
      go_end0
      exact ⟨rfl, l', R.out, sink_done HR.out (by have := R.out.len; omega)⟩
    by_cases h2 : n ≤ 2 * i + 2
    · have hmin : Hid (∀ d, (d = 2 * i + 1 ∨ d = 2 * i + 2) → d < l'.length → le lt (at_ l' (2 * i + 1)) (at_ l' d)) := fun d hd hdl => by
        have hl := R.out.len
        obtain rfl : d = 2 * i + 1 := by omega
        exact le_refl HL.out.ord _
      cases hb : ahd lt (at_ l' (2 * i + 1)) (at_ l' i)
      · have HB := Lib.hid hb
        clear hb
        go_wp2_with (go_at_call 95; refine (aheadZ HL.out (R.out.mem) R.out.len hs (_) (_) (2 * i + 1) (i) (by omega) (by omega) (by omega) (by omega) false HB.out).mono ?_; rintro e w1 ⟨rfl, hb1⟩; have B1 := Lib.hid (hb1); clear hb1)
        go_end0
        exact ⟨rfl, l', R.out.below B1.out, sink_done2 HL.out.ord HR.out hmin.out HB.out⟩
      · have HB := Lib.hid hb
        clear hb
        go_wp2_with (first
          | (go_at_call 95; refine (aheadZ HL.out (R.out.mem) R.out.len hs (_) (_) (2 * i + 1) (i) (by omega) (by omega) (by omega) (by omega) true HB.out).mono ?_; rintro e w1 ⟨rfl, hb1⟩; have B1 := Lib.hid (hb1); clear hb1)
          | (go_at_call 96; refine (swapZ (R.out.mem.below B1.out) R.out.len hs _ _ i (2 * i + 1) (by omega) (by omega) (by omega) (by omega) (by omega)).mono ?_; rintro e w9 ⟨rfl, hm, ho⟩; have M2 := Lib.hid hm; have O2 := Lib.hid ho; clear hm ho))
        go_roundw
        case rel => exact ⟨2 * i + 1, sw l' i (2 * i + 1), by go_num, by omega, R.out.step B1.out (by omega) (by omega) M2.out O2.out, sink_step HL.out.ord HR.out (by omega) (by have := R.out.len; omega) hmin.out HB.out⟩
        case measure => simp [intOf]; omega
    cases hq : ahd lt (at_ l' (2 * i + 2)) (at_ l' (2 * i + 1))
    · have HQ := Lib.hid hq
      clear hq
      have hmin : Hid (∀ d, (d = 2 * i + 1 ∨ d = 2 * i + 2) → d < l'.length → le lt (at_ l' (2 * i + 1)) (at_ l' d)) := fun d hd _ => by
        rcases hd with rfl | rfl
        · exact le_refl HL.out.ord _
        · exact HQ.out
      cases hb : ahd lt (at_ l' (2 * i + 1)) (at_ l' i)
      · have HB := Lib.hid hb
        clear hb
        have tok1 : True := trivial
        go_wp2_with (first
          | (go_at_call 95; have _t := tok1; refine (aheadZ HL.out (R.out.mem) R.out.len hs (_) (_) (2 * i + 2) (2 * i + 1) (by omega) (by omega) (by omega) (by omega) false HQ.out).mono ?_; rintro e w1 ⟨rfl, hb1⟩; have B1 := Lib.hid (hb1); clear hb1 tok1 _t)
          | (go_at_call 95; refine (aheadZ HL.out (R.out.mem.below B1.out) R.out.len hs (_) (_) (2 * i + 1) (i) (by omega) (by omega) (by omega) (by omega) false HB.out).mono ?_; rintro e w2 ⟨rfl, hb1⟩; have B2 := Lib.hid (B1.out.trans (hb1.mono B1.out.size)); clear hb1))
        go_end0
        exact ⟨rfl, l', R.out.below B2.out, sink_done2 HL.out.ord HR.out hmin.out HB.out⟩
      · have HB := Lib.hid hb
        clear hb
        have tok1 : True := trivial
        go_wp2_with (first
          | (go_at_call 95; have _t := tok1; refine (aheadZ HL.out (R.out.mem) R.out.len hs (_) (_) (2 * i + 2) (2 * i + 1) (by omega) (by omega) (by omega) (by omega) false HQ.out).mono ?_; rintro e w1 ⟨rfl, hb1⟩; have B1 := Lib.hid (hb1); clear hb1 tok1 _t)
          | (go_at_call 95; refine (aheadZ HL.out (R.out.mem.below B1.out) R.out.len hs (_) (_) (2 * i + 1) (i) (by omega) (by omega) (by omega) (by omega) true HB.out).mono ?_; rintro e w2 ⟨rfl, hb1⟩; have B2 := Lib.hid (B1.out.trans (hb1.mono B1.out.size)); clear hb1)
          | (go_at_call 96; refine (swapZ (R.out.mem.below B2.out) R.out.len hs _ _ i (2 * i + 1) (by omega) (by omega) (by omega) (by omega) (by omega)).mono ?_; rintro e w9 ⟨rfl, hm, ho⟩; have M2 := Lib.hid hm; have O2 := Lib.hid ho; clear hm ho))
        go_roundw
        case rel => exact ⟨2 * i + 1, sw l' i (2 * i + 1), by go_num, by omega, R.out.step B2.out (by omega) (by omega) M2.out O2.out, sink_step HL.out.ord HR.out (by omega) (by have := R.out.len; omega) hmin.out HB.out⟩
        case measure => simp [intOf]; omega
    · have HQ := Lib.hid hq
      clear hq
      have hmin : Hid (∀ d, (d = 2 * i + 1 ∨ d = 2 * i + 2) → d < l'.length → le lt (at_ l' (2 * i + 2)) (at_ l' d)) := fun d hd _ => by
        rcases hd with rfl | rfl
        · exact le_of_ahd HL.out.ord HQ.out
        · exact le_refl HL.out.ord _
      cases hb : ahd lt (at_ l' (2 * i + 2)) (at_ l' i)
      · have HB := Lib.hid hb
        clear hb
        have tok1 : True := trivial
        go_wp2_with (first
          | (go_at_call 95; have _t := tok1; refine (aheadZ HL.out (R.out.mem) R.out.len hs (_) (_) (2 * i + 2) (2 * i + 1) (by omega) (by omega) (by omega) (by omega) true HQ.out).mono ?_; rintro e w1 ⟨rfl, hb1⟩; have B1 := Lib.hid (hb1); clear hb1 tok1 _t)
          | (go_at_call 95; refine (aheadZ HL.out (R.out.mem.below B1.out) R.out.len hs (_) (_) (2 * i + 2) (i) (by omega) (by omega) (by omega) (by omega) false HB.out).mono ?_; rintro e w2 ⟨rfl, hb1⟩; have B2 := Lib.hid (B1.out.trans (hb1.mono B1.out.size)); clear hb1))
        go_end0
        exact ⟨rfl, l', R.out.below B2.out, sink_done2 HL.out.ord HR.out hmin.out HB.out⟩
      · have HB := Lib.hid hb
        clear hb
        have tok1 : True := trivial
        go_wp2_with (first
          | (go_at_call 95; have _t := tok1; refine (aheadZ HL.out (R.out.mem) R.out.len hs (_) (_) (2 * i + 2) (2 * i + 1) (by omega) (by omega) (by omega) (by omega) true HQ.out).mono ?_; rintro e w1 ⟨rfl, hb1⟩; have B1 := Lib.hid (hb1); clear hb1 tok1 _t)
          | (go_at_call 95; refine (aheadZ HL.out (R.out.mem.below B1.out) R.out.len hs (_) (_) (2 * i + 2) (i) (by omega) (by omega) (by omega) (by omega) true HB.out).mono ?_; rintro e w2 ⟨rfl, hb1⟩; have B2 := Lib.hid (B1.out.trans (hb1.mono B1.out.size)); clear hb1)
          | (go_at_call 96; refine (swapZ (R.out.mem.below B2.out) R.out.len hs _ _ i (2 * i + 2) (by omega) (by omega) (by omega) (by omega) (by omega)).mono ?_; rintro e w9 ⟨rfl, hm, ho⟩; have M2 := Lib.hid hm; have O2 := Lib.hid ho; clear hm ho))
        go_roundw
        case rel => exact ⟨2 * i + 2, sw l' i (2 * i + 2), by go_num, by omega, R.out.step B2.out (by omega) (by omega) M2.out O2.out, sink_step HL.out.ord HR.out (by omega) (by have := R.out.len; omega) hmin.out HB.out⟩
        case measure => simp [intOf]; omega
end Go.Proofs.YtappfojjjegnpaaGreatDoor.HI

namespace Go.Proofs.YtappfojjjegnpaaGreatDoor.HI
open Go.RowKit Go.Proofs.YtappfojjjegnpaaGreatDoor.HeapM
variable {fn : Nat} {lt : Int → Int → Bool}

/-- A heap at p that holds the things of L, in the order of pushing; c were pushed. -/
def Is (lt : Int → Int → Bool) (fn p : Nat) (w : World) (v : Value) (L : List Int) (c : Int) : Prop :=
  ∃ l, HeapMem w 132 134 2 p (.func (.func fn) #[] #[]) v l.length (l.flatMap enc) c ∧ St lt l L c
def Foot (p : Nat) (v : Value) (b : Nat) : Prop := b = p ∨ v.ownBlock = some b

theorem riseZ (hL : LessAt fn lt) {T E p g n cap : Nat} {l : List (Int × Int)} {c : Int} {w : World} (h : HeapMem w T E 2 p (.func (.func fn) #[] #[]) (.slice (some ⟨g, 0, none⟩) n cap) l.length (l.flatMap enc) c)
    (hn : n = l.length) (hs : n ≤ 1000000) (j : Int) (i : Nat) (ej : j = i) (hi : i < n) (hR : HpR lt l i) :
    Calls Tryz.prog 92 #[.pointer (some ⟨p, 0, none⟩), .int .i64 j] w (Done lt fn T E p g n cap l c w) := by
  subst ej
  exact rise hL T E p g n cap i l c w h hn hs hi hR
theorem sinkZ (hL : LessAt fn lt) {T E p g n cap : Nat} {l : List (Int × Int)} {c : Int} {w : World} (h : HeapMem w T E 2 p (.func (.func fn) #[] #[]) (.slice (some ⟨g, 0, none⟩) n cap) l.length (l.flatMap enc) c)
    (hn : n = l.length) (hs : n ≤ 1000000) (hR : HpS lt l 0) :
    Calls Tryz.prog 98 #[.pointer (some ⟨p, 0, none⟩), .int .i64 0] w (Done lt fn T E p g n cap l c w) :=
  sink hL T E p g n cap 0 l c w h hn hs (by omega) hR

theorem infoE : (Tryz.prog.info? 134).map (fun i => (i.zero, i.size, i.bytes)) = some (some (.agg #[.int .i64 0, .int .i64 0]), 2, 16) := by kernel_rfl
theorem zeroE (w : World) : (zeroValue 134).run Tryz.prog w = .ok (.agg #[.int .i64 0, .int .i64 0]) w := by kernel_rfl

/-- What dropTop leaves. -/
def Dropped (lt : Int → Int → Bool) (fn p g m cap : Nat) (l : List (Int × Int)) (c : Int) (w : World) (e : Ending) (w' : World) : Prop :=
  e = .returned (.tuple #[]) ∧ ∃ l', l'.Perm l.tail ∧ Hp lt l' ∧ m = l'.length ∧ HeapMem w' 132 134 2 p (.func (.func fn) #[] #[]) (.slice (some ⟨g, 0, none⟩) m cap) l'.length (l'.flatMap enc) c ∧ Out (fun b => b = p ∨ b = g) w w'

theorem shorter {w : World} {T E p g n m cap : Nat} {f : Value} {xs : List Value} {c : Int} (h : HeapMem w T E 2 p f (.slice (some ⟨g, 0, none⟩) n cap) n xs c) (hm : m ≤ n) : HeapMem (w.setCell ⟨p, 1, none⟩ (.slice (some ⟨g, 0, none⟩) m cap)) T E 2 p f (.slice (some ⟨g, 0, none⟩) m cap) m (xs.take (m * 2)) c :=
  HeapMem.rowed h.blk (ownsRow_shorter h.row hm) h.apart
theorem zeros_len : ([.int .i64 0, .int .i64 0] : List Value).length = 2 := rfl

set_option maxHeartbeats 2000000 in
set_option maxRecDepth 100000 in
theorem dropTop (hL : LessAt fn lt) (p g m cap : Nat) (l : List (Int × Int)) (c : Int) (w : World) (h : HeapMem w 132 134 2 p (.func (.func fn) #[] #[]) (.slice (some ⟨g, 0, none⟩) (m + 1) cap) l.length (l.flatMap enc) c)
    (hn : m + 1 = l.length) (hs : m + 1 ≤ 1000000) (hH : Hp lt l) :
    Calls Tryz.prog 94 #[.pointer (some ⟨p, 0, none⟩)] w (Dropped lt fn p g m cap l c w) := by
  have HL := Lib.hid hL
  have HN := Lib.hid hn
  have HH := Lib.hid hH
  have hps := h.lt
  have hgs := (h.row.lt g rfl).2
  have hpg : g ≠ p := fun e => h.apart (by subst e; rfl)
  have h1 := h.c1
  have f1 := h.fr 1
  obtain ⟨_, cap', hv, hcap, hcm, _⟩ := h.form (by omega)
  simp only [Value.slice.injEq, Option.some.injEq, Addr.mk.injEq, and_true] at hv
  obtain ⟨rfl, hbad, rfl⟩ := hv
  clear hbad
  have hcap1 : m + 1 ≤ cap := by omega
  have hcap2 : ¬ cap = m := by omega
  have hcap3 : m ≤ cap := by omega
  clear hcap
  unfold maxLen at hcm
  have H : Hid (HeapMem w 132 134 2 p (.func (.func fn) #[] #[]) (.slice (some ⟨g, 0, none⟩) (m + 1) cap) (m + 1) (l.flatMap enc) c) := by
    show HeapMem _ _ _ _ _ _ _ _ _ _
    rw [hn]; rw [hn] at h; exact h
  have hA := Lib.hid (cells_at h hn 0 (by omega))
  have hB := Lib.hid (cells_at h hn m (by omega))
  have HY : Hid (at_ l (l.length - 1) = at_ l m) := by show _ = _; rw [← hn]; rfl
  have hmk : m * 2 + 2 ≤ (m + 1) * 2 := by omega
  have hsink := Lib.hid (drop_sink (lt := lt) hH)
  have hperm := Lib.hid (drop_perm l (by omega))
  clear h hn hH hL
  generalize at_ l 0 = x at *
  generalize hy : at_ l m = y at *
  have hy' := Lib.hid hy
  clear hy
  have a0 : w.cell? ⟨g, 0, none⟩ = some (.int .i64 x.1) := by have := hA.out 0 (by omega); rw [Nat.zero_mul, Nat.zero_add] at this; exact this
  have fa0 := H.out.frz (0)
  have a1 : w.cell? ⟨g, 1, none⟩ = some (.int .i64 x.2) := by have := hA.out 1 (by omega); rw [Nat.zero_mul, Nat.zero_add] at this; exact this
  have fa1 := H.out.frz (1)
  have b0 : w.cell? ⟨g, m * 2, none⟩ = some (.int .i64 y.1) := hB.out 0 (by omega)
  have b1 : w.cell? ⟨g, m * 2 + 1, none⟩ = some (.int .i64 y.2) := hB.out 1 (by omega)
  clear hA hB
  -- the world behind the copy, and behind the clearing
  have M3 := Lib.hid (((H.out.stored 0 (.int .i64 y.1)).stored 1 (.int .i64 y.2))).drew
  have hclr := run_clear_one (P := Tryz.prog) _ 130 134 0 (.agg #[.int .i64 0, .int .i64 0]) [.int .i64 0, .int .i64 0] Tryz.underlying130 zeroE (by kernel_rfl) (by simp [Value.oneCell']) g (m * 2) (cap - m)
    (fun j hj => by rw [M3.out.cell (m * 2 + j) (by rw [zeros_len] at hj; omega)]; rfl) (fun j _ => M3.out.frz _)
  simp only [World.setCells, World.setCell_drew] at hclr
  clear hmk
  go_enter Tryz.func94, Tryz.ntmps94
  go_wp2
  go_region
  have M5 : Hid (HeapMem (((((w.setCell ⟨g, 0, none⟩ (.int .i64 y.1)).setCell ⟨g, 1, none⟩ (.int .i64 y.2)).setCell ⟨g, m * 2, none⟩ (.int .i64 0)).setCell ⟨g, m * 2 + 1, none⟩ (.int .i64 0)).setCell ⟨p, 1, none⟩ (.slice (some ⟨g, 0, none⟩) m cap)).drew 132 134 2 p (.func (.func fn) #[] #[]) (.slice (some ⟨g, 0, none⟩) m cap) ((l.set 0 (at_ l (l.length - 1))).take (l.length - 1)).length (((l.set 0 (at_ l (l.length - 1))).take (l.length - 1)).flatMap enc) c) := by
    have M4 := shorter (m := m) (((((H.out.stored (0) (.int .i64 y.1)).stored (1) (.int .i64 y.2)).stored (m * 2) (.int .i64 0)).stored (m * 2 + 1) (.int .i64 0))) (by omega)
    have hl1 : ((l.set 0 (at_ l (l.length - 1))).take (l.length - 1)).length = m := by have := HN.out; simp; omega
    have hl2 : l.length - 1 = m := by have := HN.out; omega
    have hx : ((l.set 0 (at_ l (l.length - 1))).take (l.length - 1)).flatMap enc = ((((((l.flatMap enc).set (0) (.int .i64 y.1)).set (1) (.int .i64 y.2)).set (m * 2) (.int .i64 0)).set (m * 2 + 1) (.int .i64 0)).take (m * 2)) := by
      have hX : ((((((l.flatMap enc).set (0) (.int .i64 y.1)).set (1) (.int .i64 y.2)).set (m * 2) (.int .i64 0)).set (m * 2 + 1) (.int .i64 0)).take (m * 2)) = (((l.flatMap enc).set (0) (.int .i64 y.1)).set (1) (.int .i64 y.2)).take (m * 2) := by rw [List.take_set_of_le (by omega), List.take_set_of_le (by omega)]
      rw [hX, hl2, ← flat_take enc enc_len, ← flat_set enc enc_len l 0 (by have := HN.out; omega)]
      rw [← hl2, HY.out, hl2]
      rfl
    rw [hl1, hx]
    exact M4.drew
  all_goals
    go_wp2_with (go_at_call 98; refine (sinkZ HL.out M5.out (by have := HN.out; simp; omega) (by omega) hsink.out).mono ?_; rintro e w9 ⟨rfl, l', R9, hp9⟩)
    go_end0
    refine ⟨rfl, l', R9.perm.trans hperm.out, hp9, R9.len, R9.mem, ?_⟩
    refine Out.trans ?_ R9.out (fun _ _ e => Or.inr e)
    refine Out.drew ?_
    exact Out.setCell (Out.setCell (Out.setCell (Out.setCell (Out.setCell (Out.refl _ _) (fun _ => Or.inr rfl) _) (fun _ => Or.inr rfl) _) (fun _ => Or.inr rfl) _) (fun _ => Or.inr rfl) _) (fun _ => Or.inl rfl) _
end Go.Proofs.YtappfojjjegnpaaGreatDoor.HI

namespace Go.Proofs.YtappfojjjegnpaaGreatDoor.HI
open Go.RowKit Go.Proofs.YtappfojjjegnpaaGreatDoor.HeapM
variable {fn : Nat} {lt : Int → Int → Bool}

theorem enc_one (x : Int × Int) : ∀ u ∈ enc x, u.oneCell' = true := by
  intro u hu
  simp [enc] at hu
  rcases hu with rfl | rfl <;> rfl
theorem news_at (w : World) (T : TypeId) (x : Int × Int) (b : Nat) (hb : w.heap.size = b) : ∀ j u, (enc x)[j]? = some u → ((w.alloc (.cells (enc x).toArray T)).drew).cell? ((⟨b, 0, none⟩ : Addr).add j) = some u := by
  intro j u hu
  subst hb
  have hj : ((⟨w.heap.size, 0, none⟩ : Addr).add j) = ⟨w.heap.size, j, none⟩ := by unfold Addr.add; split <;> simp_all
  rw [hj]
  have : ((w.alloc (.cells (enc x).toArray T)).drew).heap[w.heap.size]? = some (.cells (enc x).toArray T (0, 0)) := heap_alloc_new w _
  simp only [World.cell?, this]
  simpa using hu

theorem mem_snoc {W : World} {T E p : Nat} {f v : Value} {l : List (Int × Int)} {y : Int × Int} {d : Int} (h : HeapMem W T E 2 p f v (l.length + 1) (l.flatMap enc ++ enc y) d) : HeapMem W T E 2 p f v (l ++ [y]).length ((l ++ [y]).flatMap enc) d := by
  have e1 : (l ++ [y]).length = l.length + 1 := by simp
  have e2 : (l ++ [y]).flatMap enc = l.flatMap enc ++ enc y := by simp
  rw [e1, e2]
  exact h

/-- What a push leaves. -/
def Pushed (lt : Int → Int → Bool) (fn p : Nat) (v : Value) (L : List Int) (c : Int) (x : Int) (w : World) (e : Ending) (w' : World) : Prop :=
  e = .returned (.tuple #[]) ∧ ∃ v', Is lt fn p w' v' (L ++ [x]) (c + 1) ∧ Out (Foot p v) w w' ∧ ∀ b, v'.ownBlock = some b → v.ownBlock = some b ∨ w.heap.size ≤ b

set_option maxHeartbeats 2000000 in
set_option maxRecDepth 100000 in
theorem push (hL : LessAt fn lt) (p : Nat) (v : Value) (L : List Int) (c : Int) (x : Int) (w : World) (h : Is lt fn p w v L c) (hc : c ≤ 999999) :
    Calls Tryz.prog 86 #[.pointer (some ⟨p, 0, none⟩), (.int .i64 x)] w (Pushed lt fn p v L c x w) := by
  obtain ⟨l, h, hSt⟩ := h
  obtain ⟨i0, hi, hz0, hz1, hz2⟩ := info_parts infoE
  have HL := Lib.hid hL
  have HS := Lib.hid hSt
  have hc0 : (l.length : Int) ≤ c := by rw [hSt.hold.len]; exact hSt.hold.room
  have hln : l.length ≤ 999999 := by omega
  obtain ⟨ao, cap, rfl, hcap, _⟩ := h.form0
  have H := Lib.hid h
  have h1 := h.c1
  have h2 := h.c2
  have hp := h.lt
  clear h hSt hL
  go_enter Tryz.func86, Tryz.ntmps86
  go_wp2
  go_region_law (refine step_push rfl (.tmp 10) (.tmp 17) 130 rfl 132 134 i0 (.agg #[.int .i64 0, .int .i64 0]) 2 16 Tryz.underlying130 hi hz0 hz1 hz2 rfl (by decide) p l.length (.func (.func fn) #[] #[]) (.slice ao l.length cap) (l.flatMap enc) c H.out ((Below.refl _ _).alloc (Nat.le_refl _) _).drew (by simp [Act.eval]) ⟨w.heap.size, 0, none⟩ 1 (enc (x, c)) (by simp [Act.eval]) rfl (news_at w _ _ _ rfl) (enc_one _) (by unfold maxLen; omega) (by omega) ?_; intro g' cap' w1 A; have k1 := A.k1; have k2 := A.k2; have e1 := A.e1; have e2 := A.e2; have HA := Lib.hid A; clear A)
  all_goals
    go_wp2_with (go_at_call 92; refine (riseZ HL.out (l := l ++ [(x, c)]) (mem_snoc (HA.out.mem (c + 1))) (by simp) (by omega) _ l.length rfl (by omega) (push_rise HS.out.hp (x, c))).mono ?_; rintro e w9 ⟨rfl, l', R, hp'⟩)
    go_end0
    refine ⟨rfl, _, ⟨l', R.mem, ⟨(HS.out.hold.push x).perm R.perm, hp'⟩⟩, ?_, ?_⟩
    · have o1 : Out (Foot p (.slice ao l.length cap)) w w1 := Out.grown (Out.ofBelow ((Below.refl _ _).alloc (Nat.le_refl _) _).drew) HA.out.grow (fun i _ e => Or.inr e)
      have o2 := (o1.setCell (p := ⟨p, 1, none⟩) (fun _ => Or.inl rfl) (.slice (some ⟨g', 0, none⟩) (l.length + 1) cap')).setCell (p := ⟨p, 2, none⟩) (fun _ => Or.inl rfl) (.int .i64 (c + 1))
      refine o2.trans R.out (fun i hi e => ?_)
      subst e
      rcases HA.out.fresh with h | h
      · exact Or.inr h
      · have := h
        simp at this
        omega
    · intro b hb
      have hbg : g' = b := by simpa [Value.ownBlock] using hb
      subst hbg
      rcases HA.out.fresh with h | h
      · exact Or.inl h
      · refine Or.inr ?_
        simp at h
        omega
end Go.Proofs.YtappfojjjegnpaaGreatDoor.HI

namespace Go.Proofs.YtappfojjjegnpaaGreatDoor.HI
open Go.RowKit Go.Proofs.YtappfojjjegnpaaGreatDoor.HeapM
variable {fn : Nat} {lt : Int → Int → Bool}

theorem Is.size {p : Nat} {w : World} {v : Value} {L : List Int} {c : Int} (h : Is lt fn p w v L c) : p < w.heap.size := by
  obtain ⟨l, h, _⟩ := h
  exact h.lt
theorem Is.foot {p : Nat} {w : World} {v : Value} {L : List Int} {c : Int} (h : Is lt fn p w v L c) : ∀ b, Foot p v b → b < w.heap.size := by
  obtain ⟨l, h, _⟩ := h
  rintro b (rfl | hb)
  · exact h.lt
  · exact (h.row.lt b hb).2
theorem Is.out {p : Nat} {w w' : World} {v : Value} {L : List Int} {c : Int} {S : Nat → Prop} (h : Is lt fn p w v L c) (o : Out S w w') (hS : ∀ b, Foot p v b → ¬ S b) : Is lt fn p w' v L c := by
  obtain ⟨l, h, hs⟩ := h
  exact ⟨l, h.out o (hS p (Or.inl rfl)) (fun b hb => hS b (Or.inr hb)), hs⟩
theorem Is.below {p : Nat} {w w' : World} {v : Value} {L : List Int} {c : Int} (h : Is lt fn p w v L c) (o : Below w.heap.size w w') : Is lt fn p w' v L c :=
  h.out (S := fun _ => False) (Out.ofBelow o) (fun _ _ e => e)
theorem Is.first {p : Nat} {w : World} {v : Value} {L : List Int} {c : Int} (hL : LessAt fn lt) (h : Is lt fn p w v L c) (hne : 0 < L.length) : ∃ a, First lt L a := by
  obtain ⟨l, _, hs⟩ := h
  obtain ⟨a, ha, _⟩ := hs.top hL.ord (by rw [hs.hold.len]; exact hne)
  exact ⟨a, ha⟩
theorem Is.room {p : Nat} {w : World} {v : Value} {L : List Int} {c : Int} (h : Is lt fn p w v L c) : (L.length : Int) ≤ c := by
  obtain ⟨l, _, hs⟩ := h
  exact hs.hold.room

/-- What New leaves. -/
def Made (lt : Int → Int → Bool) (fn : Nat) (w : World) (e : Ending) (w' : World) : Prop :=
  e = .returned (.pointer (some ⟨w.heap.size, 0, none⟩)) ∧ Is lt fn w.heap.size w' (.slice none 0 0) [] 0 ∧ Below w.heap.size w w'
set_option maxHeartbeats 400000 in
theorem new (w : World) : Calls Tryz.prog 84 #[.func (.func fn) #[] #[]] w (Made lt fn w) := by
  go_enter Tryz.func84, Tryz.ntmps84
  go_wp2
  go_ret
  refine ⟨rfl, ⟨[], ⟨?_, World.ownsRow_nil _ _ _ _, by simp [Value.ownBlock]⟩, St.nil⟩, (Below.refl _ _).alloc (Nat.le_refl _) _⟩
  exact heap_alloc_new w _

set_option maxHeartbeats 400000 in
theorem len (p : Nat) (v : Value) (L : List Int) (c : Int) (w : World) (h : Is lt fn p w v L c) :
    Calls Tryz.prog 97 #[.pointer (some ⟨p, 0, none⟩)] w fun e w' => e = .returned (.int .i64 L.length) ∧ w = w' := by
  obtain ⟨l, h, hs⟩ := h
  obtain ⟨ao, cap, rfl, _, _⟩ := h.form0
  have h1 := h.c1
  rw [← hs.hold.len]
  clear h hs
  go_enter Tryz.func97, Tryz.ntmps97
  go_wp2
  go_ret
  exact ⟨rfl, rfl⟩
set_option maxHeartbeats 400000 in
theorem len_nil (w : World) :
    Calls Tryz.prog 97 #[.pointer none] w fun e w' => e = .returned (.int .i64 0) ∧ w = w' := by
  go_enter Tryz.func97, Tryz.ntmps97
  go_wp2
  go_ret
  exact ⟨rfl, rfl⟩

/-- An answer that leaves all that was there. -/
def Told (r : Value) (w : World) (e : Ending) (w' : World) : Prop := e = .returned r ∧ Below w.heap.size w w'
set_option maxHeartbeats 400000 in
theorem top_none (p : Nat) (v : Value) (c : Int) (w : World) (h : Is lt fn p w v [] c) :
    Calls Tryz.prog 93 #[.pointer (some ⟨p, 0, none⟩)] w (Told (.tuple #[.int .i64 0, .bool false]) w) := by
  have H := Lib.hid h
  clear h
  go_enter Tryz.func93, Tryz.ntmps93
  go_wp2_with (go_at_call 97; refine (len p v [] c _ H.out).mono ?_; rintro e w' ⟨rfl, rfl⟩)
  go_returns
  exact ⟨rfl, Below.refl _ _⟩
set_option maxHeartbeats 400000 in
theorem top_nil (w : World) : Calls Tryz.prog 93 #[.pointer none] w (Told (.tuple #[.int .i64 0, .bool false]) w) := by
  go_enter Tryz.func93, Tryz.ntmps93
  go_wp2_with (go_at_call 97; refine (len_nil _).mono ?_; rintro e w' ⟨rfl, rfl⟩)
  go_returns
  exact ⟨rfl, Below.refl _ _⟩
set_option maxHeartbeats 400000 in
theorem top_some (hL : LessAt fn lt) (p : Nat) (v : Value) (L : List Int) (c : Int) (w : World) (h : Is lt fn p w v L c) (a : Nat) (ha : First lt L a) :
    Calls Tryz.prog 93 #[.pointer (some ⟨p, 0, none⟩)] w (Told (.tuple #[(.int .i64 (L.getD a default)), .bool true]) w) := by
  have H := Lib.hid h
  obtain ⟨l, h, hs⟩ := h
  have hne : 0 < L.length := Nat.lt_of_le_of_lt (Nat.zero_le _) ha.1
  have hln := hs.hold.len
  obtain ⟨a', ha', hx, _⟩ := hs.top hL.ord (by omega)
  obtain rfl := First.uniq ha ha'
  obtain ⟨g, cap, rfl, _, _, hpg, hgs⟩ := h.form (by omega)
  have h1 := h.c1
  have hA := Lib.hid (cells_at h rfl 0 (by omega))
  have hps := h.lt
  have HL := Lib.hid hln
  have hb : ((L.length : Int) == 0) = false := by simp; intro e; subst e; simp at hne
  have hlp : 0 < l.length := by omega
  clear h hs ha ha' hL hln hne
  generalize L.getD a default = t at *
  generalize at_ l 0 = x at *
  subst hx
  have a0 : w.cell? ⟨g, 0, none⟩ = some (.int .i64 x.1) := by have := hA.out 0 (by omega); rw [Nat.zero_mul, Nat.zero_add] at this; exact this
  have a1 : w.cell? ⟨g, 1, none⟩ = some (.int .i64 x.2) := by have := hA.out 1 (by omega); rw [Nat.zero_mul, Nat.zero_add] at this; exact this
  clear hA
  go_enter Tryz.func93, Tryz.ntmps93
  go_wp2_with (go_at_call 97; refine (len p _ L c _ H.out).mono ?_; rintro e w' ⟨rfl, rfl⟩)
  go_returns
  exact ⟨rfl, Below.refl _ _⟩
end Go.Proofs.YtappfojjjegnpaaGreatDoor.HI

namespace Go.Proofs.YtappfojjjegnpaaGreatDoor.HI
open Go.RowKit Go.Proofs.YtappfojjjegnpaaGreatDoor.HeapM
variable {fn : Nat} {lt : Int → Int → Bool}

theorem top_x (hL : LessAt fn lt) {p : Nat} {v : Value} {L : List Int} {c : Int} {w : World} (h : Is lt fn p w v L c) {a : Nat} (ha : First lt L a) (x : Int) (hx : L.getD a default = x) :
    Calls Tryz.prog 93 #[.pointer (some ⟨p, 0, none⟩)] w (Told (.tuple #[(.int .i64 x), .bool true]) w) := by
  subst hx
  exact top_some hL p v L c w h a ha
/-- What Pop leaves. -/
def Popped (lt : Int → Int → Bool) (fn p : Nat) (v : Value) (L : List Int) (c : Int) (a : Nat) (x : Int) (w : World) (e : Ending) (w' : World) : Prop :=
  e = .returned (.tuple #[(.int .i64 x), .bool true]) ∧ ∃ v', Is lt fn p w' v' (L.eraseIdx a) c ∧ Out (Foot p v) w w' ∧ ∀ b, v'.ownBlock = some b → v.ownBlock = some b ∨ w.heap.size ≤ b
set_option maxHeartbeats 400000 in
theorem pop_none (p : Nat) (v : Value) (c : Int) (w : World) (h : Is lt fn p w v [] c) :
    Calls Tryz.prog 87 #[.pointer (some ⟨p, 0, none⟩)] w (Told (.tuple #[.int .i64 0, .bool false]) w) := by
  have H := Lib.hid h
  clear h
  go_enter Tryz.func87, Tryz.ntmps87
  go_wp2_with (go_at_call 93; refine (top_none p v c _ H.out).mono ?_; rintro e w1 ⟨rfl, hb⟩; have Q1 : Hid (Below w.heap.size w w1) := Lib.hid hb; clear hb)
  go_returns
  exact ⟨rfl, Q1.out⟩
set_option maxHeartbeats 400000 in
theorem pop_nil (w : World) : Calls Tryz.prog 87 #[.pointer none] w (Told (.tuple #[.int .i64 0, .bool false]) w) := by
  go_enter Tryz.func87, Tryz.ntmps87
  go_wp2_with (go_at_call 93; refine (top_nil _).mono ?_; rintro e w1 ⟨rfl, hb⟩; have Q1 : Hid (Below w.heap.size w w1) := Lib.hid hb; clear hb)
  go_returns
  exact ⟨rfl, Q1.out⟩
set_option maxHeartbeats 400000 in
theorem push_nil (x : Int) (w : World) : Calls Tryz.prog 86 #[.pointer none, (.int .i64 x)] w (Told (.tuple #[]) w) := by
  go_enter Tryz.func86, Tryz.ntmps86
  go_wp2
  go_returns
  exact ⟨rfl, Below.refl _ _⟩

/-- Behind the top: the row's own parts. -/
theorem dropTopI (hL : LessAt fn lt) (p : Nat) (v : Value) (L : List Int) (c : Int) (w : World) (h : Is lt fn p w v L c) (hc : c ≤ 1000000) (a : Nat) (ha : First lt L a) :
    Calls Tryz.prog 94 #[.pointer (some ⟨p, 0, none⟩)] w fun e w' => e = .returned (.tuple #[]) ∧ ∃ v', Is lt fn p w' v' (L.eraseIdx a) c ∧ Out (Foot p v) w w' ∧ ∀ b, v'.ownBlock = some b → v.ownBlock = some b := by
  obtain ⟨l, h, hs⟩ := h
  have hln := hs.hold.len
  have hne : 0 < L.length := Nat.lt_of_le_of_lt (Nat.zero_le _) ha.1
  have hr := hs.hold.room
  obtain ⟨a', ha', _, hd⟩ := hs.top hL.ord (by omega)
  obtain rfl := First.uniq ha ha'
  obtain ⟨m, hm⟩ : ∃ m, l.length = m + 1 := ⟨l.length - 1, by omega⟩
  obtain ⟨g, cap, hv, _, _, hpg, hgs⟩ := h.form (by omega)
  subst hv
  have h' : HeapMem w 132 134 2 p (.func (.func fn) #[] #[]) (.slice (some ⟨g, 0, none⟩) (m + 1) cap) l.length (l.flatMap enc) c := hm ▸ h
  refine (dropTop hL p g m cap l c w h' hm.symm (by omega) hs.hp).mono ?_
  rintro e w' ⟨rfl, l', hp, hh, hml, hmem, ho⟩
  refine ⟨rfl, _, ⟨l', hmem, ⟨hd.perm hp, hh⟩⟩, ho.mono (fun i _ e => ?_), fun b hb => ?_⟩
  · rcases e with e | e
    · exact Or.inl e
    · exact Or.inr (by subst e; rfl)
  · simpa [Value.ownBlock] using hb

set_option maxHeartbeats 800000 in
theorem pop_some (hL : LessAt fn lt) (p : Nat) (v : Value) (L : List Int) (c : Int) (w : World) (h : Is lt fn p w v L c) (hc : c ≤ 1000000) (a : Nat) (ha : First lt L a) (x : Int) (hx : L.getD a default = x) :
    Calls Tryz.prog 87 #[.pointer (some ⟨p, 0, none⟩)] w (Popped lt fn p v L c a x w) := by
  have H := Lib.hid h
  have HA := Lib.hid ha
  have HL := Lib.hid hL
  have HF := Lib.hid h.foot
  have HX := Lib.hid hx
  clear h ha hL hx
  go_enter Tryz.func87, Tryz.ntmps87
  go_wp2_with (first
    | (go_at_call 93; refine (top_x HL.out H.out HA.out x HX.out).mono ?_; rintro e w1 ⟨rfl, hb⟩; have B1 := Lib.hid hb; clear hb)
    | (go_at_call 94; refine (dropTopI HL.out p v L c _ (H.out.below B1.out) hc a HA.out).mono ?_; rintro e w2 ⟨rfl, v', hI, ho, hf⟩; have I2 := Lib.hid hI; have O2 := Lib.hid ho; have F2 := Lib.hid hf; clear hI ho hf))
  go_returns
  exact ⟨rfl, v', I2.out, (Out.ofBelow B1.out).trans O2.out (fun _ _ e => e), fun b hb => Or.inl (F2.out b hb)⟩
end Go.Proofs.YtappfojjjegnpaaGreatDoor.HI
