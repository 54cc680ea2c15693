/-
  leastFirst: what it holds in memory. Conditions: none.
-/
import Derived.Test.YtkloaekmjnbacaaDagC
import Derived.Test.YtkloaekmjnbacaaHeapIF
import Derived.Test.YtkloaekmjnbacaaShelf
namespace Go.Proofs.Ytkloaekmjnbacaa
open Go.RowKit Go.Proofs.Ytkloaekmjnbacaa.DagM Go.Proofs.Ytkloaekmjnbacaa.HeapM

def ltI (x y : Int) : Bool := decide (x < y)
theorem ordI : Ord ltI := ⟨fun x y h => by simp only [ltI, decide_eq_true_eq, decide_eq_false_iff_not] at *; omega, fun x y z h k => by simp only [ltI, decide_eq_false_iff_not] at *; omega⟩
theorem lessI : HI.LessAt 60 ltI := by
  refine ⟨enters_of Try.func60 (by kernel_rfl) rfl, fun W x y => (Go.Proofs.Try.cmp_Less_int2 x y W).mono ?_, ordI⟩
  rintro e w' ⟨rfl, rfl⟩
  exact ⟨rfl, Below.refl _ _⟩

/-- A row of another element type than a heap's. -/
theorem foot_neI {w : World} {p : Nat} {v lv : Value} {L : List Int} {c : Int} {B n k : Nat} {xs : List Value} {lt : Int → Int → Bool} {fn : Nat} {t : TypeId} (ht : t ≠ 127) (ht' : t ≠ 129) (h : HI.Is lt fn p w v L c) (h' : w.ownsRow B t k lv n xs) : ∀ b, HI.Foot p v b → lv.ownBlock ≠ some b := by
  obtain ⟨l, h, _⟩ := h
  have key : ∀ b, lv.ownBlock = some b → ∃ cur, w.heap[b]? = some (.cells cur t (0, 0)) := by
    intro b hb
    rcases h'.2 with ⟨rfl, _⟩ | ⟨g', cap', cur', rfl, _, hh', _⟩
    · simp [Value.ownBlock] at hb
    · simp only [Value.ownBlock, Option.some.injEq] at hb
      subst hb
      exact ⟨_, hh'⟩
  rintro b (rfl | hb) e
  · obtain ⟨cur, hc⟩ := key _ e
    rw [h.blk] at hc
    injection hc with hc
    injection hc with _ ht2
    exact ht ht2.symm
  · obtain ⟨cur, hc⟩ := key _ e
    rcases h.row.2 with ⟨rfl, _⟩ | ⟨g', cap', cur', rfl, _, hh', _⟩
    · simp [Value.ownBlock] at hb
    · simp only [Value.ownBlock, Option.some.injEq] at hb
      subst hb
      rw [hh'] at hc
      injection hc with hc
      injection hc with _ ht2
      exact ht' ht2.symm

/-- The graph in memory, that lies below B, and leastFirst's own, from B on: the heap at p with the row hv of hl, the order P in ov. -/
structure LfAt (w0 w : World) (B g m N : Nat) (V : Nat → Value) (R : Nat → List Nat) (f : Nat → Nat) (p : Nat) (hv : Value) (hl : List Int) (c : Int) (ov : Value) (P : List Nat) : Prop where
  lk : LkAt w0 w g m N V f R
  heap : HI.Is ltI 60 p w hv hl c
  ord : OwnN w B ov P
  wB : w0.heap.size ≤ B
  Bw : B ≤ w.heap.size
  pB : B ≤ p
  hB : ∀ b, hv.ownBlock = some b → B ≤ b
  gB : g < B
  mB : m < B
  vB : ∀ v, v < N → ∀ b, (V v).ownBlock = some b → b < B

section
variable {w0 w w' : World} {B g m N p : Nat} {V : Nat → Value} {f : Nat → Nat} {R : Nat → List Nat} {hv ov : Value} {hl : List Int} {c : Int} {P : List Nat}
theorem LkAt.far {S : Nat → Prop} (h : LkAt w0 w g m N V f R) (o : Out S w w') (hS : ∀ b, S b → B ≤ b) (wB : w0.heap.size ≤ B) (gB : g < B) (mB : m < B) (vB : ∀ v, v < N → ∀ b, (V v).ownBlock = some b → b < B) : LkAt w0 w' g m N V f R := by
  refine ⟨h.below.trans (o.below h.below.size (fun i _ e => by have := hS i e; omega)), h.g0, h.m0, h.ne, ?_, ?_, fun v hv => ?_, h.apart, h.offG, h.offM⟩
  · exact ownsRow_out h.outer o (fun b hb e => by
      simp only [Value.ownBlock, Option.some.injEq] at hb
      have := hS b e
      omega)
  · exact ownsRow_out h.miss o (fun b hb e => by
      simp only [Value.ownBlock, Option.some.injEq] at hb
      have := hS b e
      omega)
  · exact ownsRow_out (h.rows v hv) o (fun b hb e => by
      have := hS b e
      have := vB v hv b hb
      omega)
theorem LfAt.quiet (h : LfAt w0 w B g m N V R f p hv hl c ov P) (o : Below w.heap.size w w') : LfAt w0 w' B g m N V R f p hv hl c ov P :=
  ⟨h.lk.quiet o, h.heap.below o, ownsRow_out (S := fun _ => False) h.ord (Out.ofBelow o) (fun _ _ e => e), h.wB, Nat.le_trans h.Bw o.size, h.pB, h.hB, h.gB, h.mB, h.vB⟩
theorem LfAt.foot (h : LfAt w0 w B g m N V R f p hv hl c ov P) : ∀ b, HI.Foot p hv b → B ≤ b := by
  rintro b (rfl | hb)
  · exact h.pB
  · exact h.hB b hb
theorem LfAt.push {v3 : Value} {hl' : List Int} {c' : Int} (h : LfAt w0 w B g m N V R f p hv hl c ov P) (i3 : HI.Is ltI 60 p w' v3 hl' c') (o3 : Out (HI.Foot p hv) w w') (f3 : ∀ b, v3.ownBlock = some b → hv.ownBlock = some b ∨ w.heap.size ≤ b) :
    LfAt w0 w' B g m N V R f p v3 hl' c' ov P :=
  ⟨h.lk.far o3 h.foot h.wB h.gB h.mB h.vB, i3, ownsRow_out h.ord o3 (fun b hb e => foot_neI (by decide) (by decide) h.heap h.ord b e hb), h.wB, Nat.le_trans h.Bw o3.size, h.pB, fun b hb => by
    rcases f3 b hb with e | e
    · exact h.hB b e
    · exact Nat.le_trans h.Bw e, h.gB, h.mB, h.vB⟩
theorem LfAt.dec (h : LfAt w0 w B g m N V R f p hv hl c ov P) (t d : Nat) : LfAt w0 (w.setCell ⟨m, t, none⟩ (encNat d)) B g m N V R (fun v => if v = t then d else f v) p hv hl c ov P := by
  have o2 : Out (fun b => b = m) w (w.setCell ⟨m, t, none⟩ (encNat d)) := Out.setCell (S := fun b => b = m) (Out.refl _ w) (p := ⟨m, t, none⟩) (fun _ => rfl) _
  have hm := h.mB
  refine ⟨h.lk.inc t d, h.heap.out o2 (fun b hb e => by have := h.foot b hb; omega), ownsRow_out h.ord o2 (fun b hb e => by have := (h.ord.lt b hb).1; omega), h.wB, Nat.le_trans h.Bw o2.size, h.pB, h.hB, h.gB, h.mB, h.vB⟩
theorem LfAt.app (h : LfAt w0 w B g m N V R f p hv hl c ov P) {ov' : Value} {P' : List Nat} (hgrow : w.grownBy w' ov.ownBlock) (ho : OwnN w' B ov' P') : LfAt w0 w' B g m N V R f p hv hl c ov' P' := by
  have o : Out (fun b => ov.ownBlock = some b) w w' := (Out.refl _ w).grown hgrow (fun _ _ e => e)
  exact ⟨h.lk.far o (fun b hb => (h.ord.lt b hb).1) h.wB h.gB h.mB h.vB, h.heap.out o (foot_neI (by decide) (by decide) h.heap h.ord), ho, h.wB, Nat.le_trans h.Bw o.size, h.pB, h.hB, h.gB, h.mB, h.vB⟩
theorem LfAt.rowAt (h : LfAt w0 w B g m N V R f p hv hl c ov P) {v : Nat} (hv' : v < N) : ∃ ao cp, V v = .slice ao (R v).length cp := by
  rcases (h.lk.rows v hv').2 with ⟨h1, h2⟩ | ⟨g, cap, cur, hv, _⟩
  · exact ⟨none, 0, by rw [h2]; exact h1⟩
  · exact ⟨_, _, hv⟩
theorem OwnN.snoc {l : List Nat} {x : Nat} (h : w.ownsRow B 3 1 ov (l.length + 1) (l.map encNat ++ [encNat x])) : OwnN w B ov (l ++ [x]) := by
  unfold OwnN
  rw [List.length_append, List.map_append]
  exact h
theorem OwnN.cell {l : List Nat} {gg cap n : Nat} (h : OwnN w B (.slice (some ⟨gg, 0, none⟩) n cap) l) (hn : n = l.length) (k : Nat) (hk : k < l.length) : w.cell? ⟨gg, k, none⟩ = some (.int .i64 (l[k] : Int)) := by
  subst hn
  have := h.cellAt k (by simpa using hk)
  rw [this]
  simp [hk, encNat]
end
theorem mkRoom (N : Nat) (hN : N ≤ 4096) (w : World) : (Instr.makeSlice 29 (.int .i64 0) (.int .i64 (N : Int))).run Try.prog w = .ok (.slice (some ⟨w.heap.size, 0, none⟩) 0 N) (w.alloc (.cells (madeCells #[.int .i64 0] N) 3)) := by
  obtain ⟨i, hi, h0, h1, h2⟩ := info_parts infoI
  have h := run_make (P := Try.prog) w 29 3 i _ Try.underlying29 hi h0 .i64 .i64 0 N (by omega) (by omega) (by rw [h2]; omega) (by omega)
  rw [h1] at h
  simpa [Value.cells] using h
/-- Room for N numbers, none of them there yet. -/
theorem OwnN.room (w : World) (B N : Nat) (hB : B ≤ w.heap.size) (hN : N ≤ 4096) : OwnN (w.alloc (.cells (madeCells #[.int .i64 0] N) 3)) B (.slice (some ⟨w.heap.size, 0, none⟩) 0 N) [] := by
  exact World.ownsRow_made w _ N hB (by unfold maxLen; omega) (by simp [size_madeCells])

/-- What the pop of a heap of nodes tells. -/
theorem first_min {L : List Nat} {a : Nat} (h : First ltI (L.map fun (x : Nat) => (x : Int)) a) : ∃ ha : a < L.length, (∀ b (hb : b < L.length), L[a] ≤ L[b]) ∧ (L.map fun (x : Nat) => (x : Int)).getD a default = (L[a] : Int) := by
  obtain ⟨h1, h2⟩ := h
  have ha : a < L.length := by simpa using h1
  have hg : ∀ b (hb : b < L.length), (L.map fun (x : Nat) => (x : Int)).getD b default = (L[b] : Int) := by
    intro b hb
    simp [List.getD_eq_getElem?_getD, hb]
  refine ⟨ha, fun b hb => ?_, hg a ha⟩
  have h3 := h2 b (by simpa using hb)
  rw [hg a ha, hg b hb] at h3
  simp only [ltI, decide_eq_true_eq, decide_eq_false_iff_not] at h3
  rcases Nat.lt_trichotomy b a with h | h | h
  · have := h3.1 h; omega
  · subst h; omega
  · have := h3.2 h; omega
theorem map_erase (L : List Nat) (a : Nat) : (L.map fun (x : Nat) => (x : Int)).eraseIdx a = (L.eraseIdx a).map fun (x : Nat) => (x : Int) := by
  rw [List.eraseIdx_eq_take_drop_succ, List.eraseIdx_eq_take_drop_succ, List.map_append, List.map_take, List.map_drop]
end Go.Proofs.Ytkloaekmjnbacaa
