/-
  A heap in memory: the block of its three fields, the row of its items, what lies outside both. Conditions: none.
-/
import Derived.Test.YtkgknbjcllcndaaBase
import Derived.Test.YtkgknbjcllcndaaHeapM
import Derived.OneCell
import Derived.Laws.OwnMore
namespace Go.Proofs.Ytkgknbjcllcndaa
open Go.RowKit

/-- What lies outside the blocks of S reads as it did. -/
structure Out (S : Nat → Prop) (w w' : World) : Prop where
  os : w'.os = w.os
  tape : w'.tape = w.tape
  output : w'.output = w.output
  size : w.heap.size ≤ w'.heap.size
  block : ∀ k, k < w.heap.size → ¬ S k → w'.heap[k]? = w.heap[k]?

theorem Out.refl (S : Nat → Prop) (w : World) : Out S w w := ⟨rfl, rfl, rfl, Nat.le_refl _, fun _ _ _ => rfl⟩
theorem Out.trans {S S' : Nat → Prop} {a b c : World} (h : Out S a b) (k : Out S' b c) (hS : ∀ i, i < a.heap.size → S' i → S i) : Out S a c :=
  ⟨k.os.trans h.os, k.tape.trans h.tape, k.output.trans h.output, Nat.le_trans h.size k.size, fun i hi hn =>
    (k.block i (Nat.lt_of_lt_of_le hi h.size) (fun e => hn (hS i hi e))).trans (h.block i hi hn)⟩
theorem Out.mono {S S' : Nat → Prop} {a b : World} (h : Out S a b) (hS : ∀ i, i < a.heap.size → S i → S' i) : Out S' a b :=
  ⟨h.os, h.tape, h.output, h.size, fun i hi hn => h.block i hi (fun e => hn (hS i hi e))⟩
theorem Out.ofBelow {S : Nat → Prop} {w w' : World} (h : RowKit.Below w.heap.size w w') : Out S w w' := ⟨h.os, h.tape, h.output, h.size, fun k hk _ => h.block k hk⟩
theorem Out.below {S : Nat → Prop} {w w' : World} {B : Nat} (h : Out S w w') (hB : B ≤ w.heap.size) (hS : ∀ i, i < w.heap.size → S i → B ≤ i) : RowKit.Below B w w' :=
  ⟨h.os, h.tape, h.output, h.size, fun k hk => h.block k (by omega) (fun e => by have := hS k (by omega) e; omega)⟩
theorem Out.drew {S : Nat → Prop} {a w : World} (h : Out S a w) : Out S a w.drew := ⟨h.os, h.tape, h.output, h.size, h.block⟩
theorem Out.alloc {S : Nat → Prop} {a w : World} (h : Out S a w) (o : Obj) : Out S a (w.alloc o) :=
  h.trans (S' := fun _ => False) ⟨rfl, rfl, rfl, by simp, fun k hk _ => Below.heap_alloc _ _ _ hk⟩ (fun _ _ e => e.elim)
theorem Out.setCell {S : Nat → Prop} {a w : World} (h : Out S a w) {p : Addr} (hp : p.block < a.heap.size → S p.block) (u : Value) : Out S a (w.setCell p u) :=
  h.trans (S' := fun i => i = p.block) ⟨rfl, rfl, rfl, by simp [World.setCell], fun k _ hn => Below.heap_setCell _ _ _ _ hn⟩ (fun i hi e => by subst e; exact hp hi)
theorem Out.setIn {g : Nat} {a w : World} (h : Out (fun b => b = g) a w) (o : Nat) (u : Value) : Out (fun b => b = g) a (w.setCell ⟨g, o, none⟩ u) := h.setCell (fun _ => rfl) u
theorem Out.grown {S : Nat → Prop} {a w w' : World} {row : Option Nat} (h : Out S a w) (hg : w.grownBy w' row) (hr : ∀ k, k < a.heap.size → row = some k → S k) : Out S a w' :=
  h.trans (S' := fun i => row = some i) ⟨hg.os, hg.tape, hg.output, hg.size, fun k hk hn => hg.block k hk (fun e => hn e.symm)⟩ (fun i hi e => hr i hi e)

theorem Out.cell {S : Nat → Prop} {a w : World} (h : Out S a w) {b : Nat} (o : Nat) (hb : b < a.heap.size) (hn : ¬ S b) : w.cell? ⟨b, o, none⟩ = a.cell? ⟨b, o, none⟩ := World.cell?_of_block (w := a) (h.block b hb hn)
theorem Out.frz {S : Nat → Prop} {a w : World} (h : Out S a w) {b : Nat} (o : Nat) (hb : b < a.heap.size) (hn : ¬ S b) : w.frozen? ⟨b, o, none⟩ = a.frozen? ⟨b, o, none⟩ := World.frozen?_of_block (w := a) (h.block b hb hn)

theorem ownsRow_block {w w' : World} {base : Nat} {e : TypeId} {size n : Nat} {v : Value} {xs : List Value} (h : w.ownsRow base e size v n xs) (hb : ∀ b, v.ownBlock = some b → w'.heap[b]? = w.heap[b]?) : w'.ownsRow base e size v n xs := by
  obtain ⟨h1, h2⟩ := h
  refine ⟨h1, ?_⟩
  rcases h2 with h2 | ⟨g, cap, cur, hv, hg, hh, r⟩
  · exact Or.inl h2
  · subst hv
    exact Or.inr ⟨g, cap, cur, rfl, hg, by rw [hb g rfl]; exact hh, r⟩
theorem ownsRow_out {w w' : World} {base : Nat} {e : TypeId} {size n : Nat} {v : Value} {xs : List Value} {S : Nat → Prop} (h : w.ownsRow base e size v n xs) (o : Out S w w') (hv : ∀ b, v.ownBlock = some b → ¬ S b) : w'.ownsRow base e size v n xs :=
  ownsRow_block h fun b hb => o.block b (h.lt b hb).2 (hv b hb)

/-- A heap's fields and its row. -/
structure HeapMem (w : World) (T E : TypeId) (k p : Nat) (f v : Value) (n : Nat) (xs : List Value) (c : Int) : Prop where
  blk : w.heap[p]? = some (.cells #[f, v, .int .i64 c] T (0, 0))
  row : w.ownsRow 0 E k v n xs
  apart : v.ownBlock ≠ some p

variable {w w' : World} {T E : TypeId} {k p n : Nat} {f v : Value} {xs : List Value} {c : Int} {S : Nat → Prop}
theorem HeapMem.lt (h : HeapMem w T E k p f v n xs c) : p < w.heap.size := (Array.getElem?_eq_some_iff.1 h.blk).1
theorem HeapMem.out (h : HeapMem w T E k p f v n xs c) (o : Out S w w') (hp : ¬ S p) (hv : ∀ b, v.ownBlock = some b → ¬ S b) : HeapMem w' T E k p f v n xs c :=
  ⟨by rw [o.block p h.lt hp]; exact h.blk, ownsRow_out h.row o hv, h.apart⟩
theorem HeapMem.below (h : HeapMem w T E k p f v n xs c) (o : RowKit.Below w.heap.size w w') : HeapMem w' T E k p f v n xs c :=
  h.out (S := fun _ => False) (Out.ofBelow o) (fun e => e) (fun _ _ e => e)
theorem HeapMem.drew (h : HeapMem w T E k p f v n xs c) : HeapMem w.drew T E k p f v n xs c := h.below ((Below.refl _ _).drew)
theorem HeapMem.c0 (h : HeapMem w T E k p f v n xs c) : w.cell? ⟨p, 0, none⟩ = some f := by simp [World.cell?, h.blk]
theorem HeapMem.c1 (h : HeapMem w T E k p f v n xs c) : w.cell? ⟨p, 1, none⟩ = some v := by simp [World.cell?, h.blk]
theorem HeapMem.c2 (h : HeapMem w T E k p f v n xs c) : w.cell? ⟨p, 2, none⟩ = some (.int .i64 c) := by simp [World.cell?, h.blk]
theorem HeapMem.fr (h : HeapMem w T E k p f v n xs c) (j : Nat) : w.frozen? ⟨p, j, none⟩ = false := by
  simp only [World.frozen?, h.blk]
  simp
theorem HeapMem.len (h : HeapMem w T E k p f v n xs c) : xs.length = n * k := h.row.1
theorem HeapMem.form (h : HeapMem w T E k p f v n xs c) (h0 : 0 < n) : ∃ g cap, v = .slice (some ⟨g, 0, none⟩) n cap ∧ n ≤ cap ∧ cap ≤ maxLen ∧ g ≠ p ∧ g < w.heap.size := by
  rcases h.row.2 with ⟨_, h2⟩ | ⟨g, cap, cur, hv, hg, hh, hn, hc, r⟩
  · omega
  · refine ⟨g, cap, hv, hn, hc, fun e => ?_, (Array.getElem?_eq_some_iff.1 hh).1⟩
    apply h.apart
    rw [hv, e]; rfl
theorem HeapMem.form0 (h : HeapMem w T E k p f v n xs c) : ∃ ao cap, v = .slice ao n cap ∧ n ≤ cap ∧ cap ≤ maxLen := by
  rcases h.row.2 with ⟨h1, h2⟩ | ⟨g, cap, cur, hv, hg, hh, hn, hc, r⟩
  · subst h2; exact ⟨_, _, h1, Nat.le_refl _, by simp [maxLen]⟩
  · exact ⟨_, _, hv, hn, hc⟩
theorem HeapMem.cell {g cap : Nat} (h : HeapMem w T E k p f (.slice (some ⟨g, 0, none⟩) n cap) n xs c) (j : Nat) (hj : j < n * k) : w.cell? ⟨g, j, none⟩ = some (xs.getD j default) := by
  rw [h.row.cellAt j hj, List.getD_eq_getElem?_getD, List.getElem?_eq_getElem (by rw [h.len]; exact hj)]
  rfl
theorem HeapMem.frz {g cap : Nat} (h : HeapMem w T E k p f (.slice (some ⟨g, 0, none⟩) n cap) n xs c) (j : Nat) : w.frozen? ⟨g, j, none⟩ = false := h.row.frozenAt j
/-- A store into the row. -/
theorem HeapMem.stored {g cap : Nat} (h : HeapMem w T E k p f (.slice (some ⟨g, 0, none⟩) n cap) n xs c) (j : Nat) (u : Value) : HeapMem (w.setCell ⟨g, j, none⟩ u) T E k p f (.slice (some ⟨g, 0, none⟩) n cap) n (xs.set j u) c := by
  refine ⟨?_, (h.row.stored j u).1, h.apart⟩
  rw [Below.heap_setCell _ _ _ _ (fun e => h.apart (by subst e; rfl))]
  exact h.blk
theorem heap_setCell_at {w : World} {p : Nat} {cur : Array Value} {T : TypeId} {fz : Nat × Nat} (h : w.heap[p]? = some (.cells cur T fz)) (j : Nat) (u : Value) : (w.setCell ⟨p, j, none⟩ u).heap[p]? = some (.cells (cur.setIfInBounds j u) T fz) := by
  have hlt := (Array.getElem?_eq_some_iff.1 h).1
  have h' : w.heap[p] = .cells cur T fz := by simpa [Array.getElem?_eq_getElem hlt] using h
  show (w.heap.modify p _)[p]? = _
  rw [Array.getElem?_eq_getElem (by simpa using hlt), Array.getElem_modify_self, h']
  rfl
/-- Another number of those that were pushed. -/
theorem HeapMem.count (h : HeapMem w T E k p f v n xs c) (d : Int) : HeapMem (w.setCell ⟨p, 2, none⟩ (.int .i64 d)) T E k p f v n xs d := by
  refine ⟨?_, ownsRow_setCell_other h.row h.apart _, h.apart⟩
  rw [heap_setCell_at h.blk]; rfl
/-- Another row. -/
theorem HeapMem.rowed {v' : Value} {n' : Nat} {xs' : List Value} (hb : w.heap[p]? = some (.cells #[f, v, .int .i64 c] T (0, 0))) (hr : w.ownsRow 0 E k v' n' xs') (ha : v'.ownBlock ≠ some p) : HeapMem (w.setCell ⟨p, 1, none⟩ v') T E k p f v' n' xs' c := by
  refine ⟨?_, ownsRow_setCell_other hr ha _, ha⟩
  rw [heap_setCell_at hb]; rfl

section flat
variable {β : Type} (enc : β → List Value)
theorem flat_len (hk : ∀ x, (enc x).length = k) (l : List β) : (l.flatMap enc).length = l.length * k := by
  induction l with
  | nil => simp
  | cons x t ih => simp [ih, hk, Nat.add_mul]; omega
theorem flat_get [Inhabited β] (hk : ∀ x, (enc x).length = k) (l : List β) (i r : Nat) (hi : i < l.length) (hr : r < k) : (l.flatMap enc).getD (i * k + r) default = (enc (l.getD i default)).getD r default := by
  induction l generalizing i with
  | nil => simp at hi
  | cons x t ih =>
    rw [List.flatMap_cons]
    cases i with
    | zero =>
      simp only [Nat.zero_mul, Nat.zero_add, List.getD_eq_getElem?_getD]
      rw [List.getElem?_append_left (by rw [hk]; exact hr)]
      rfl
    | succ i =>
      have e : (i + 1) * k + r = (enc x).length + (i * k + r) := by rw [hk, Nat.add_mul]; omega
      rw [e, List.getD_eq_getElem?_getD, List.getElem?_append_right (by omega), Nat.add_sub_cancel_left, ← List.getD_eq_getElem?_getD, ih i (by simpa using hi)]
      rfl
/-- A run of stores. -/
def runSet (xs : List Value) (s : Nat) : List Value → List Value
  | [] => xs
  | u :: us => runSet (xs.set s u) (s + 1) us
theorem runSet_eq (us : List Value) : ∀ (xs : List Value) (s : Nat), s + us.length ≤ xs.length → runSet xs s us = xs.take s ++ us ++ xs.drop (s + us.length) := by
  induction us with
  | nil => intro xs s _; simp [runSet]
  | cons u us ih =>
    intro xs s h
    simp at h
    rw [runSet, ih _ _ (by simp; omega)]
    apply List.ext_getElem?
    intro q
    simp only [List.getElem?_append, List.getElem?_take, List.getElem?_drop, List.length_take, List.length_set, List.length_append, List.length_cons, List.getElem?_set, List.getElem?_cons]
    by_cases h1 : q < s
    · simp [h1, show q < s + 1 by omega, show q < xs.length by omega, show ¬ s = q by omega, show q < min (s+1) xs.length by omega, show q < min s xs.length by omega, show q < min (s + 1) xs.length + us.length by omega, show q < min s xs.length + (us.length + 1) by omega]
    · by_cases h2 : q = s
      · subst h2
        simp [show q < q + 1 by omega, show q < min (q+1) xs.length by omega, show ¬ q < min q xs.length by omega, show q < min (q + 1) xs.length + us.length by omega, show q < min q xs.length + (us.length + 1) by omega, show q < xs.length by omega, show q - min q xs.length = 0 by omega]
      · by_cases h3 : q < s + 1 + us.length
        · simp [show ¬ q < min (s+1) xs.length by omega, show ¬ q < min s xs.length by omega, show q < min (s + 1) xs.length + us.length by omega, show q < min s xs.length + (us.length + 1) by omega, show q - min s xs.length ≠ 0 by omega, show q - min s xs.length - 1 = q - min (s + 1) xs.length by omega]
        · simp [show ¬ q < min (s + 1) xs.length + us.length by omega, show ¬ q < min s xs.length + (us.length + 1) by omega]
          rw [if_neg (by omega)]
          congr 1; omega
theorem flat_set (hk : ∀ x, (enc x).length = k) (l : List β) (i : Nat) (hi : i < l.length) (y : β) : runSet (l.flatMap enc) (i * k) (enc y) = (l.set i y).flatMap enc := by
  have hlen := flat_len enc hk l
  have hmul : i * k + k ≤ l.length * k := by
    have := Nat.mul_le_mul_right k (show i + 1 ≤ l.length by omega)
    rw [Nat.add_mul] at this; omega
  rw [runSet_eq _ _ _ (by rw [hk, hlen]; exact hmul), hk]
  clear hlen hmul
  induction l generalizing i with
  | nil => simp at hi
  | cons x t ih =>
    cases i with
    | zero =>
      have e : (enc x).length = k := hk x
      simp [← e]
    | succ i =>
      have e1 : (i + 1) * k = (enc x).length + i * k := by rw [hk, Nat.add_mul]; omega
      have e2 : (enc x).length + i * k + k = (enc x).length + (i * k + k) := by omega
      simp only [List.set_cons_succ, List.flatMap_cons]
      rw [e1, e2, List.take_length_add_append, List.drop_length_add_append, ← ih i (by simpa using hi)]
      simp
theorem flat_take (hk : ∀ x, (enc x).length = k) (l : List β) (m : Nat) : (l.flatMap enc).take (m * k) = (l.take m).flatMap enc := by
  induction l generalizing m with
  | nil => simp
  | cons x t ih =>
    cases m with
    | zero => simp
    | succ m =>
      have e : (m + 1) * k = (enc x).length + m * k := by rw [hk, Nat.add_mul]; omega
      rw [List.flatMap_cons, e, List.take_length_add_append, ih, List.take_succ_cons, List.flatMap_cons]
end flat
end Go.Proofs.Ytkgknbjcllcndaa
