/-
  leastFirst: what it holds in memory. Conditions: none.
  Ranks: what it answers. Conditions: at most a million numbers.
  Rows of rows in memory (of the call's own, or read only); a row of numbers told by a function; spans. Conditions: none.
-/
import Derived.Test.YtappfojjjegnpaaGreatDoorCqA
import Derived.Test.YtappfojjjegnpaaGreatDoorCqH
import Derived.Test.YtappfojjjegnpaaGreatDoorShelf
import Derived.Test.YtappfojjjegnpaaGreatDoorCqM
import Derived.Sort.OwnSortedInts
import Derived.Lib.OwnBridge
import Derived.Lib.Slices
namespace Go.Proofs.YtappfojjjegnpaaGreatDoor
open Go.RowKit Go.Proofs.YtappfojjjegnpaaGreatDoor.DagM Go.Proofs.YtappfojjjegnpaaGreatDoor.HeapM

def ltI (x y : Int) : Bool := decide (x < y)
theorem ordI : Ord ltI := ⟨fun x y h => by simp only [ltI, decide_eq_true_eq, decide_eq_false_iff_not] at *; omega, fun x y z h k => by simp only [ltI, decide_eq_false_iff_not] at *; omega⟩
theorem lessI : HI.LessAt 85 ltI := by
  refine ⟨enters_of Tryz.func85 (by kernel_rfl) rfl, fun W x y => (Go.Proofs.Tryz.cmp_Less_int2 x y W).mono ?_, ordI⟩
  rintro e w' ⟨rfl, rfl⟩
  exact ⟨rfl, Below.refl _ _⟩

/-- A row of another element type than a heap's. -/
theorem foot_neI {w : World} {p : Nat} {v lv : Value} {L : List Int} {c : Int} {B n k : Nat} {xs : List Value} {lt : Int → Int → Bool} {fn : Nat} {t : TypeId} (ht : t ≠ 132) (ht' : t ≠ 134) (h : HI.Is lt fn p w v L c) (h' : w.ownsRow B t k lv n xs) : ∀ b, HI.Foot p v b → lv.ownBlock ≠ some b := by
  obtain ⟨l, h, _⟩ := h
  have key : ∀ b, lv.ownBlock = some b → ∃ cur, w.heap[b]? = some (.cells cur t (0, 0)) := by
    intro b hb
    rcases h'.2 with ⟨rfl, _⟩ | ⟨g', cap', cur', rfl, _, hh', _⟩
    · simp [Value.ownBlock] at hb
    · simp only [Value.ownBlock, Option.some.injEq] at hb
      subst hb
      exact ⟨_, hh'⟩
  rintro b (rfl | hb) e
  · obtain ⟨cur, hc⟩ := key _ e
    rw [h.blk] at hc
    injection hc with hc
    injection hc with _ ht2
    exact ht ht2.symm
  · obtain ⟨cur, hc⟩ := key _ e
    rcases h.row.2 with ⟨rfl, _⟩ | ⟨g', cap', cur', rfl, _, hh', _⟩
    · simp [Value.ownBlock] at hb
    · simp only [Value.ownBlock, Option.some.injEq] at hb
      subst hb
      rw [hh'] at hc
      injection hc with hc
      injection hc with _ ht2
      exact ht' ht2.symm

/-- The graph in memory, that lies below B, and leastFirst's own, from B on: the heap at p with the row hv of hl, the order P in ov. -/
structure LfAt (w0 w : World) (B g m N : Nat) (V : Nat → Value) (R : Nat → List Nat) (f : Nat → Nat) (p : Nat) (hv : Value) (hl : List Int) (c : Int) (ov : Value) (P : List Nat) : Prop where
  lk : LkAt w0 w g m N V f R
  heap : HI.Is ltI 85 p w hv hl c
  ord : OwnN w B ov P
  wB : w0.heap.size ≤ B
  Bw : B ≤ w.heap.size
  pB : B ≤ p
  hB : ∀ b, hv.ownBlock = some b → B ≤ b
  gB : g < B
  mB : m < B
  vB : ∀ v, v < N → ∀ b, (V v).ownBlock = some b → b < B

section
variable {w0 w w' : World} {B g m N p : Nat} {V : Nat → Value} {f : Nat → Nat} {R : Nat → List Nat} {hv ov : Value} {hl : List Int} {c : Int} {P : List Nat}
theorem LkAt.far {S : Nat → Prop} (h : LkAt w0 w g m N V f R) (o : Out S w w') (hS : ∀ b, S b → B ≤ b) (wB : w0.heap.size ≤ B) (gB : g < B) (mB : m < B) (vB : ∀ v, v < N → ∀ b, (V v).ownBlock = some b → b < B) : LkAt w0 w' g m N V f R := by
  refine ⟨h.below.trans (o.below h.below.size (fun i _ e => by have := hS i e; omega)), h.g0, h.m0, h.ne, ?_, ?_, fun v hv => ?_, h.apart, h.offG, h.offM⟩
  · exact ownsRow_out h.outer o (fun b hb e => by
      simp only [Value.ownBlock, Option.some.injEq] at hb
      have := hS b e
      omega)
  · exact ownsRow_out h.miss o (fun b hb e => by
      simp only [Value.ownBlock, Option.some.injEq] at hb
      have := hS b e
      omega)
  · exact ownsRow_out (h.rows v hv) o (fun b hb e => by
      have := hS b e
      have := vB v hv b hb
      omega)
theorem LfAt.quiet (h : LfAt w0 w B g m N V R f p hv hl c ov P) (o : Below w.heap.size w w') : LfAt w0 w' B g m N V R f p hv hl c ov P :=
  ⟨h.lk.quiet o, h.heap.below o, ownsRow_out (S := fun _ => False) h.ord (Out.ofBelow o) (fun _ _ e => e), h.wB, Nat.le_trans h.Bw o.size, h.pB, h.hB, h.gB, h.mB, h.vB⟩
theorem LfAt.foot (h : LfAt w0 w B g m N V R f p hv hl c ov P) : ∀ b, HI.Foot p hv b → B ≤ b := by
  rintro b (rfl | hb)
  · exact h.pB
  · exact h.hB b hb
theorem LfAt.push {v3 : Value} {hl' : List Int} {c' : Int} (h : LfAt w0 w B g m N V R f p hv hl c ov P) (i3 : HI.Is ltI 85 p w' v3 hl' c') (o3 : Out (HI.Foot p hv) w w') (f3 : ∀ b, v3.ownBlock = some b → hv.ownBlock = some b ∨ w.heap.size ≤ b) :
    LfAt w0 w' B g m N V R f p v3 hl' c' ov P :=
  ⟨h.lk.far o3 h.foot h.wB h.gB h.mB h.vB, i3, ownsRow_out h.ord o3 (fun b hb e => foot_neI (by decide) (by decide) h.heap h.ord b e hb), h.wB, Nat.le_trans h.Bw o3.size, h.pB, fun b hb => by
    rcases f3 b hb with e | e
    · exact h.hB b e
    · exact Nat.le_trans h.Bw e, h.gB, h.mB, h.vB⟩
theorem LfAt.dec (h : LfAt w0 w B g m N V R f p hv hl c ov P) (t d : Nat) : LfAt w0 (w.setCell ⟨m, t, none⟩ (encNat d)) B g m N V R (fun v => if v = t then d else f v) p hv hl c ov P := by
  have o2 : Out (fun b => b = m) w (w.setCell ⟨m, t, none⟩ (encNat d)) := Out.setCell (S := fun b => b = m) (Out.refl _ w) (p := ⟨m, t, none⟩) (fun _ => rfl) _
  have hm := h.mB
  refine ⟨h.lk.inc t d, h.heap.out o2 (fun b hb e => by have := h.foot b hb; omega), ownsRow_out h.ord o2 (fun b hb e => by have := (h.ord.lt b hb).1; omega), h.wB, Nat.le_trans h.Bw o2.size, h.pB, h.hB, h.gB, h.mB, h.vB⟩
theorem LfAt.app (h : LfAt w0 w B g m N V R f p hv hl c ov P) {ov' : Value} {P' : List Nat} (hgrow : w.grownBy w' ov.ownBlock) (ho : OwnN w' B ov' P') : LfAt w0 w' B g m N V R f p hv hl c ov' P' := by
  have o : Out (fun b => ov.ownBlock = some b) w w' := (Out.refl _ w).grown hgrow (fun _ _ e => e)
  exact ⟨h.lk.far o (fun b hb => (h.ord.lt b hb).1) h.wB h.gB h.mB h.vB, h.heap.out o (foot_neI (by decide) (by decide) h.heap h.ord), ho, h.wB, Nat.le_trans h.Bw o.size, h.pB, h.hB, h.gB, h.mB, h.vB⟩
theorem LfAt.rowAt (h : LfAt w0 w B g m N V R f p hv hl c ov P) {v : Nat} (hv' : v < N) : ∃ ao cp, V v = .slice ao (R v).length cp := by
  rcases (h.lk.rows v hv').2 with ⟨h1, h2⟩ | ⟨g, cap, cur, hv, _⟩
  · exact ⟨none, 0, by rw [h2]; exact h1⟩
  · exact ⟨_, _, hv⟩
theorem OwnN.snoc {l : List Nat} {x : Nat} (h : w.ownsRow B 3 1 ov (l.length + 1) (l.map encNat ++ [encNat x])) : OwnN w B ov (l ++ [x]) := by
  unfold OwnN
  rw [List.length_append, List.map_append]
  exact h
theorem OwnN.cell {l : List Nat} {gg cap n : Nat} (h : OwnN w B (.slice (some ⟨gg, 0, none⟩) n cap) l) (hn : n = l.length) (k : Nat) (hk : k < l.length) : w.cell? ⟨gg, k, none⟩ = some (.int .i64 (l[k] : Int)) := by
  subst hn
  have := h.cellAt k (by simpa using hk)
  rw [this]
  simp [hk, encNat]
end
theorem mkRoom (N : Nat) (hN : N ≤ 4096) (w : World) : (Instr.makeSlice 22 (.int .i64 0) (.int .i64 (N : Int))).run Tryz.prog w = .ok (.slice (some ⟨w.heap.size, 0, none⟩) 0 N) (w.alloc (.cells (madeCells #[.int .i64 0] N) 3)) := by
  obtain ⟨i, hi, h0, h1, h2⟩ := info_parts infoI
  have h := run_make (P := Tryz.prog) w 22 3 i _ Tryz.underlying22 hi h0 .i64 .i64 0 N (by omega) (by omega) (by rw [h2]; omega) (by omega)
  rw [h1] at h
  simpa [Value.cells] using h
/-- Room for N numbers, none of them there yet. -/
theorem OwnN.room (w : World) (B N : Nat) (hB : B ≤ w.heap.size) (hN : N ≤ 4096) : OwnN (w.alloc (.cells (madeCells #[.int .i64 0] N) 3)) B (.slice (some ⟨w.heap.size, 0, none⟩) 0 N) [] := by
  exact World.ownsRow_made w _ N hB (by unfold maxLen; omega) (by simp [size_madeCells])

/-- What the pop of a heap of nodes tells. -/
theorem first_min {L : List Nat} {a : Nat} (h : First ltI (L.map fun (x : Nat) => (x : Int)) a) : ∃ ha : a < L.length, (∀ b (hb : b < L.length), L[a] ≤ L[b]) ∧ (L.map fun (x : Nat) => (x : Int)).getD a default = (L[a] : Int) := by
  obtain ⟨h1, h2⟩ := h
  have ha : a < L.length := by simpa using h1
  have hg : ∀ b (hb : b < L.length), (L.map fun (x : Nat) => (x : Int)).getD b default = (L[b] : Int) := by
    intro b hb
    simp [List.getD_eq_getElem?_getD, hb]
  refine ⟨ha, fun b hb => ?_, hg a ha⟩
  have h3 := h2 b (by simpa using hb)
  rw [hg a ha, hg b hb] at h3
  simp only [ltI, decide_eq_true_eq, decide_eq_false_iff_not] at h3
  rcases Nat.lt_trichotomy b a with h | h | h
  · have := h3.1 h; omega
  · subst h; omega
  · have := h3.2 h; omega
theorem map_erase (L : List Nat) (a : Nat) : (L.map fun (x : Nat) => (x : Int)).eraseIdx a = (L.eraseIdx a).map fun (x : Nat) => (x : Int) := by
  rw [List.eraseIdx_eq_take_drop_succ, List.eraseIdx_eq_take_drop_succ, List.map_append, List.map_take, List.map_drop]
end Go.Proofs.YtappfojjjegnpaaGreatDoor

namespace Go.Proofs.YtappfojjjegnpaaGreatDoor
open Go.RowKit Go.Sort Go.Lib Go.Proofs.YtappfojjjegnpaaGreatDoor.DagM

/-- The ints l in a row of the call's own, from B on. -/
def OwnI (w : World) (B : Nat) (v : Value) (l : List Int) : Prop := w.ownsRow B 3 1 v l.length (l.map (Value.int .i64))
theorem OwnI.form {w : World} {B : Nat} {v : Value} {l : List Int} (h : OwnI w B v l) : ∃ ao cap, v = .slice ao l.length cap := by
  rcases h.2 with ⟨h1, h2⟩ | ⟨_, _, _, h, _⟩
  · exact ⟨none, 0, by rw [h2]; exact h1⟩
  · exact ⟨_, _, h⟩
theorem OwnI.ints {w : World} {B : Nat} {v : Value} {l : List Int} (h : OwnI w B v l) : IntsAt w v l := by
  have h' := h
  rcases h.2 with ⟨rfl, h2⟩ | ⟨g, cap, cur, rfl, _, hg, hn, hr⟩
  · exact ⟨none, 0, by rw [h2], by omega, fun h => absurd h (by omega)⟩
  · refine ⟨_, cap, rfl, hn, fun _ => ⟨g, 0, rfl, (Array.getElem?_eq_some_iff.1 hg).1, fun k hk => ?_⟩⟩
    rw [Nat.zero_add, h'.cellAt k (by simpa using hk)]
    simp [hk]
theorem OwnN.toI {w : World} {B : Nat} {v : Value} {l : List Nat} (h : OwnN w B v l) : OwnI w B v (castI l) := by
  unfold OwnI castI
  unfold OwnN at h
  rw [List.length_map, List.map_map]
  exact h
theorem OwnI.below {w w' : World} {B : Nat} {v : Value} {l : List Int} (h : OwnI w B v l) (o : Below w.heap.size w w') : OwnI w' B v l := ownsRow_out (S := fun _ => False) h (Out.ofBelow o) (fun _ _ e => e)
theorem OwnI.base {w : World} {B B' : Nat} {v : Value} {l : List Int} (h : OwnI w B v l) (hb : B' ≤ B) : OwnI w B' v l := by
  refine ⟨h.1, ?_⟩
  rcases h.2 with h2 | ⟨g, cap, cur, hv, hg, r⟩
  · exact Or.inl h2
  · exact Or.inr ⟨g, cap, cur, hv, Nat.le_trans hb hg, r⟩




/-- Where ranks stands: the sorted numbers in u, the answers at g. -/
structure RkAt (w0 w : World) (u : Value) (g : Nat) (x : List Int) (k : Nat) : Prop where
  below : Below w0.heap.size w0 w
  un : OwnI w w0.heap.size u (unlike x)
  out : OwnI w w0.heap.size (.slice (some ⟨g, 0, none⟩) x.length x.length) ((List.range x.length).map fun i => if i < k then (rk x (x.getD i 0) : Int) else 0)
  ne : u.ownBlock ≠ some g
  g0 : w0.heap.size ≤ g
def RkRel (x : List Int) (u : Value) (g : Nat) (w wr : World) (iv : Value) : Prop := ∃ k : Nat, iv = .int .i64 k ∧ k ≤ x.length ∧ RkAt w wr u g x k
def Ranked (x : List Int) (w : World) (e : Ending) (w' : World) : Prop := ∃ v, e = .returned v ∧ OwnI w' w.heap.size v (castI (rkL x)) ∧ Below w.heap.size w w'
theorem mkAny (N : Nat) (hN : N ≤ 1000000) (w : World) : (Instr.makeSlice 22 (.int .i64 (N : Int)) (.int .i64 (N : Int))).run Tryz.prog w = .ok (.slice (some ⟨w.heap.size, 0, none⟩) N N) (w.alloc (.cells (madeCells #[.int .i64 0] N) 3)) := by
  obtain ⟨i, hi, h0, h1, h2⟩ := info_parts infoI
  have h := run_make (P := Tryz.prog) w 22 3 i _ Tryz.underlying22 hi h0 .i64 .i64 N N (by omega) (by omega) (by rw [h2]; omega) (by omega)
  rw [h1] at h
  simpa [Value.cells] using h
theorem grown_below {w0 w w' : World} {B : Nat} {v : Value} {l : List Int} (h : OwnI w B v l) (hB : w0.heap.size ≤ B) (hb : Below w0.heap.size w0 w) (hg : w.grownBy w' v.ownBlock) : Below w0.heap.size w0 w' :=
  hb.trans (((Out.refl _ w).grown (S := fun b => v.ownBlock = some b) hg (fun _ _ e => e)).below hb.size (fun i _ e => by have := (h.lt i e).1; omega))
theorem RkAt.quiet {w0 w w' : World} {u : Value} {g : Nat} {x : List Int} {k : Nat} (h : RkAt w0 w u g x k) (o : Below w.heap.size w w') : RkAt w0 w' u g x k :=
  ⟨h.below.trans (o.mono h.below.size), h.un.below o, h.out.below o, h.ne, h.g0⟩
theorem RkAt.row {w0 w : World} {u : Value} {g : Nat} {x : List Int} {k : Nat} (h : RkAt w0 w u g x k) : w.ownsRow w0.heap.size 3 1 (.slice (some ⟨g, 0, none⟩) x.length x.length) x.length (((List.range x.length).map fun i => if i < k then (rk x (x.getD i 0) : Int) else 0).map (Value.int .i64)) := by
  have := h.out
  unfold OwnI at this
  simpa using this
theorem RkAt.cell {w0 w : World} {u : Value} {g : Nat} {x : List Int} {k : Nat} (h : RkAt w0 w u g x k) (hk : k < x.length) : w.cell? ⟨g, k, none⟩ = some (.int .i64 0) := by
  rw [h.row.cellAt k (by simpa using hk)]
  simp [hk]

theorem RkAt.put {w0 w : World} {u : Value} {g : Nat} {x : List Int} {k : Nat} (h : RkAt w0 w u g x k) (hk : k < x.length) : RkAt w0 (w.setCell ⟨g, k, none⟩ (.int .i64 (rk x x[k]))) u g x (k + 1) := by
  have o2 : Out (fun b => b = g) w (w.setCell ⟨g, k, none⟩ (.int .i64 (rk x x[k]))) := Out.setCell (S := fun b => b = g) (Out.refl _ w) (p := ⟨g, k, none⟩) (fun _ => rfl) _
  refine ⟨h.below.trans (o2.below h.below.size (fun i _ e => by subst e; exact h.g0)), ownsRow_out h.un o2 (fun b hb e => by subst e; exact h.ne hb), ?_, h.ne, h.g0⟩
  have hs : w.ownsRow w0.heap.size 3 1 (.slice (some ⟨g, 0, none⟩) x.length x.length) x.length (((List.range x.length).map fun i => if i < k then (rk x (x.getD i 0) : Int) else 0).map (Value.int .i64)) := by
    have := h.out
    unfold OwnI at this
    simpa using this
  have h1 := (hs.stored k (.int .i64 (rk x x[k]))).1
  have e : (((List.range x.length).map fun i => if i < k then (rk x (x.getD i 0) : Int) else 0).map (Value.int .i64)).set k (.int .i64 (rk x x[k])) = ((List.range x.length).map fun i => if i < k + 1 then (rk x (x.getD i 0) : Int) else 0).map (Value.int .i64) := by
    apply List.ext_getElem?
    intro i
    rw [List.getElem?_set]
    by_cases h2 : i < x.length
    · by_cases h3 : k = i
      · subst h3
        simp [h2, List.getD_eq_getElem?_getD]
      · have h4 : (i < k + 1) ↔ (i < k) := by omega
        simp [h2, h3, h4]
    · by_cases h3 : k = i
      · omega
      · simp [h2, h3]
  rw [e] at h1
  unfold OwnI
  simpa using h1



end Go.Proofs.YtappfojjjegnpaaGreatDoor

namespace Go.Proofs.YtappfojjjegnpaaGreatDoor
open Go.RowKit Go.Proofs.YtappfojjjegnpaaGreatDoor.DagM

/-- Rows V of the call's own, that hold R, in a row at g. -/
structure RwsAt (w0 w : World) (g N : Nat) (V : Nat → Value) (R : Nat → List Nat) : Prop where
  below : Below w0.heap.size w0 w
  g0 : w0.heap.size ≤ g
  outer : w.ownsRow w0.heap.size 22 1 (.slice (some ⟨g, 0, none⟩) N N) N ((List.range N).map V)
  rows : ∀ v, v < N → OwnN w w0.heap.size (V v) (R v)
  apart : ∀ u v, u < N → v < N → u ≠ v → ∀ b, (V u).ownBlock = some b → (V v).ownBlock ≠ some b
  offG : ∀ v, v < N → (V v).ownBlock ≠ some g
/-- Rows V that hold R, in a row at g, to be read. -/
structure RowsAt (w : World) (g N : Nat) (V : Nat → Value) (R : Nat → List Nat) : Prop where
  gl : g < w.heap.size
  cell : ∀ v, v < N → w.cell? ⟨g, v, none⟩ = some (V v)
  rows : ∀ v, v < N → IntsAt w (V v) (castI (R v))
/-- The numbers x of N nodes, in a row of the call's own at g. -/
structure XsAt (w0 w : World) (g N : Nat) (x : Nat → Nat) : Prop where
  below : Below w0.heap.size w0 w
  g0 : w0.heap.size ≤ g
  row : w.ownsRow w0.heap.size 3 1 (.slice (some ⟨g, 0, none⟩) N N) N ((List.range N).map fun v => encNat (x v))

section
variable {w0 w w' : World} {g N : Nat} {V : Nat → Value} {R : Nat → List Nat} {x : Nat → Nat}
theorem RwsAt.gl (h : RwsAt w0 w g N V R) : g < w.heap.size := (h.outer.lt g rfl).2
theorem RwsAt.quiet (h : RwsAt w0 w g N V R) (o : Below w.heap.size w w') : RwsAt w0 w' g N V R := by
  have keep : ∀ {v : Value} {e : TypeId} {n k : Nat} {xs : List Value}, w.ownsRow w0.heap.size e k v n xs → w'.ownsRow w0.heap.size e k v n xs := fun hr => ownsRow_out (S := fun _ => False) hr (Out.ofBelow o) (fun _ _ e => e)
  exact ⟨h.below.trans (o.mono h.below.size), h.g0, keep h.outer, fun v hv => keep (h.rows v hv), h.apart, h.offG⟩
/-- The row of u is another one, longer by t; it lies where it lay or in a new block. -/
theorem RwsAt.add (h : RwsAt w0 w g N V R) {u t : Nat} (hu : u < N) {v' : Value} {w1 : World}
    (hown : w1.ownsRow w0.heap.size 3 1 v' ((R u).length + 1) ((R u).map encNat ++ [encNat t])) (hgrow : w.grownBy w1 (V u).ownBlock) (hfr : ∀ b, v'.ownBlock = some b → (V u).ownBlock = some b ∨ w.heap.size ≤ b) :
    RwsAt w0 (w1.setCell ⟨g, u, none⟩ v') g N (fun v => if v = u then v' else V v) (fun v => if v = u then R u ++ [t] else R v) := by
  have hs := h.below.size
  have hrow := (h.rows u hu).lt
  have o1 : Out (fun b => (V u).ownBlock = some b) w w1 := (Out.refl _ w).grown hgrow (fun _ _ e => e)
  have o2 : Out (fun b => (V u).ownBlock = some b ∨ b = g) w (w1.setCell ⟨g, u, none⟩ v') := Out.setCell (S := fun b => (V u).ownBlock = some b ∨ b = g) (o1.mono (fun _ _ e => Or.inl e)) (p := ⟨g, u, none⟩) (fun _ => Or.inr rfl) v'
  have out1 := ownsRow_out h.outer o1 (fun b hb e => h.offG u hu (by simp only [Value.ownBlock, Option.some.injEq] at hb; subst hb; exact e))
  have offg' : v'.ownBlock ≠ some g := fun e => by
    rcases hfr g e with e | e
    · exact h.offG u hu e
    · have := h.gl; omega
  have hown2 : (w1.setCell ⟨g, u, none⟩ v').ownsRow w0.heap.size 3 1 v' ((R u).length + 1) ((R u).map encNat ++ [encNat t]) := ownsRow_setCell_other hown offg' _
  refine ⟨h.below.trans (o2.below hs (fun i _ e => ?_)), h.g0, ?_, fun v hv => ?_, fun a b ha hb hab c hc => ?_, fun v hv => ?_⟩
  · rcases e with e | e
    · exact (hrow i e).1
    · subst e; exact h.g0
  · rw [map_set]
    exact (out1.stored u v').1
  · by_cases e : v = u
    · subst e
      simp only [if_true]
      unfold OwnN
      rw [List.length_append, List.map_append]
      exact hown2
    · simp only [if_neg e]
      exact ownsRow_out (h.rows v hv) o2 (fun b hb e2 => by
        rcases e2 with e2 | e2
        · exact h.apart v u hv hu e b hb e2
        · subst e2; exact h.offG v hv hb)
  · by_cases e1 : a = u
    · subst e1
      have e2 : ¬ b = a := fun e => hab e.symm
      simp only [if_true] at hc
      simp only [if_neg e2]
      rcases hfr c hc with e | e
      · exact h.apart a b ha hb hab c e
      · intro k
        have := ((h.rows b hb).lt c k).2
        omega
    · simp only [if_neg e1] at hc
      by_cases e2 : b = u
      · subst e2
        simp only [if_true]
        intro k
        rcases hfr c k with e | e
        · exact h.apart a b ha hb hab c hc e
        · have := ((h.rows a ha).lt c hc).2
          omega
      · simp only [if_neg e2]
        exact h.apart a b ha hb hab c hc
  · by_cases e : v = u
    · subst e; simp only [if_true]; exact offg'
    · simp only [if_neg e]; exact h.offG v hv
theorem RwsAt.cellG (h : RwsAt w0 w g N V R) {v : Nat} (hv : v < N) : w.cell? ⟨g, v, none⟩ = some (V v) := by
  rw [h.outer.cellAt v (by simpa using hv)]
  simp [hv]
theorem RwsAt.frG (h : RwsAt w0 w g N V R) (v : Nat) : w.frozen? ⟨g, v, none⟩ = false := h.outer.frozenAt v
theorem RwsAt.read (h : RwsAt w0 w g N V R) : RowsAt w g N V R := ⟨h.gl, fun _ hv => h.cellG hv, fun v hv => (h.rows v hv).toI.ints⟩
theorem RowsAt.below (h : RowsAt w g N V R) (o : Below w.heap.size w w') : RowsAt w' g N V R :=
  ⟨Nat.lt_of_lt_of_le h.gl o.size, fun v hv => (o.cell (p := ⟨g, v, none⟩) h.gl).trans (h.cell v hv), fun v hv => (h.rows v hv).below o⟩
theorem rws_start (hb : Below w0.heap.size w0 w) (hg : w0.heap.size ≤ g) (h1 : w.heap[g]? = some (.cells (madeCells #[.slice none 0 0] N) 22 (0, 0))) (hN : N ≤ 1000000) :
    RwsAt w0 w g N (fun _ => .slice none 0 0) (fun _ => []) := by
  refine ⟨hb, hg, ⟨by simp, Or.inr ⟨g, N, _, rfl, hg, h1, Nat.le_refl _, by unfold maxLen; omega, by simp [size_madeCells], ?_⟩⟩, fun v hv => World.ownsRow_nil _ _ _ _, fun u v _ _ _ b hb2 => by simp [Value.ownBlock] at hb2, fun v _ => by simp [Value.ownBlock]⟩
  rw [toList_madeCells_one, made_map, List.take_of_length_le (by simp)]
/-- The append onto the row of u, as a step. -/
theorem step_rws {P : Program} {ops : Array Oper} {o : Oper} {a : Act} {W : World} {K : Act → World → Prop} {Q : Exit → Act → World → Prop} {F : Prop}
    (hg : o.guard = none) (s y : Operand) (tt : TypeId) (hop : o.op = Op.call { callee := Callee.builtin Builtin.append, args := #[s, y], argTypes := #[tt, tt] })
    (i : TypeInfo) (bytes : Nat) (h1 : P.underlying tt = some (.slice 3)) (h2 : P.info? 3 = some i) (h3 : i.zero = some (.int .i64 0)) (h4 : i.size = 1) (h5 : i.bytes = bytes)
    (h : RwsAt w0 w g N V R) (hb : RowKit.Below w.heap.size w W) (u t : Nat) (hu : u < N) (hs : a.eval s = V u)
    (ad : Addr) (cp : Nat) (hx : a.eval y = .slice (some ad) 1 cp) (hc : ∀ j z, [encNat t][j]? = some z → W.cell? (ad.add j) = some z)
    (b1 : (R u).length + 1 ≤ maxLen) (b2 : ((R u).length + 1) * bytes ≤ 140737488355328)
    (hK : ∀ gv cv w1, RwsAt w0 (w1.setCell ⟨g, u, none⟩ (.slice (some ⟨gv, 0, none⟩) ((R u).length + 1) cv)) g N (fun v => if v = u then .slice (some ⟨gv, 0, none⟩) ((R u).length + 1) cv else V v) (fun v => if v = u then R u ++ [t] else R v) →
      Out (fun b => (V u).ownBlock = some b) W w1 → RwsAt w0 W g N V R → (∀ b, (V u).ownBlock = some b → b < w.heap.size) → K (a.put o.dst (.slice (some ⟨gv, 0, none⟩) ((R u).length + 1) cv)) w1) :
    if Region.wanted o (yielded ops a.tmps) = true then Oper.wp P o a W K Q else F := by
  have H := h.quiet hb
  have hbs : w0.heap.size ≤ W.heap.size := Nat.le_trans h.below.size hb.size
  refine step_append_fresh hg s y tt hop w0.heap.size 3 i (.int .i64 0) 1 bytes h1 h2 h3 h4 h5 rfl (by decide) (V u) (R u).length ((R u).map encNat) hs (H.rows u hu) ad 1 cp [encNat t] hx rfl hc
    (by intro z hz; simp [encNat] at hz; subst hz; rfl) b1 b2 hbs fun v' w1 hown hgrow hfr => ?_
  obtain ⟨gv, cv, rfl, _, _, _⟩ := ownsRow_form hown (by omega)
  exact hK gv cv w1 (H.add hu hown hgrow hfr) ((Out.refl _ W).grown hgrow (fun _ _ e => e)) H (fun b hb2 => ((h.rows u hu).lt b hb2).2)

theorem XsAt.gl (h : XsAt w0 w g N x) : g < w.heap.size := (h.row.lt g rfl).2
theorem XsAt.quiet (h : XsAt w0 w g N x) (o : Below w.heap.size w w') : XsAt w0 w' g N x :=
  ⟨h.below.trans (o.mono h.below.size), h.g0, ownsRow_out (S := fun _ => False) h.row (Out.ofBelow o) (fun _ _ e => e)⟩
theorem XsAt.set (h : XsAt w0 w g N x) (t d : Nat) : XsAt w0 (w.setCell ⟨g, t, none⟩ (encNat d)) g N (fun v => if v = t then d else x v) := by
  have o2 : Out (fun b => b = g) w (w.setCell ⟨g, t, none⟩ (encNat d)) := Out.setCell (S := fun b => b = g) (Out.refl _ w) (p := ⟨g, t, none⟩) (fun _ => rfl) _
  refine ⟨h.below.trans (o2.below h.below.size (fun i _ e => by subst e; exact h.g0)), h.g0, ?_⟩
  have e : ((List.range N).map fun v => encNat (if v = t then d else x v)) = ((List.range N).map fun v => encNat (x v)).set t (encNat d) := by
    rw [← map_set]
    exact List.map_congr_left (fun v _ => by by_cases e : v = t <;> simp [e])
  rw [e]
  exact (h.row.stored t _).1
theorem XsAt.cell (h : XsAt w0 w g N x) {v : Nat} (hv : v < N) : w.cell? ⟨g, v, none⟩ = some (.int .i64 (x v : Int)) := by
  rw [h.row.cellAt v (by simpa using hv)]
  simp [hv, encNat]
theorem XsAt.fr (h : XsAt w0 w g N x) (v : Nat) : w.frozen? ⟨g, v, none⟩ = false := h.row.frozenAt v
theorem XsAt.own (h : XsAt w0 w g N x) : OwnN w w0.heap.size (.slice (some ⟨g, 0, none⟩) N N) ((List.range N).map x) := by
  have := h.row
  unfold OwnN
  rw [List.length_map, List.length_range, List.map_map]
  exact this
theorem xs_start (hb : Below w0.heap.size w0 w) (hg : w0.heap.size ≤ g) (h1 : w.heap[g]? = some (.cells (madeCells #[.int .i64 0] N) 3 (0, 0))) (hN : N ≤ 1000000) : XsAt w0 w g N (fun _ => 0) := by
  refine ⟨hb, hg, ⟨by simp, Or.inr ⟨g, N, _, rfl, hg, h1, Nat.le_refl _, by unfold maxLen; omega, by simp [size_madeCells], ?_⟩⟩⟩
  rw [toList_madeCells_one, made_map, List.take_of_length_le (by simp)]
  rfl
end
theorem mkRowsN (N : Nat) (hN : N ≤ 1000000) (w : World) : (Instr.makeSlice 120 (.int .i64 (N : Int)) (.int .i64 (N : Int))).run Tryz.prog w = .ok (.slice (some ⟨w.heap.size, 0, none⟩) N N) (w.alloc (.cells (madeCells #[.slice none 0 0] N) 22)) := by
  obtain ⟨i, hi, h0, h1, h2⟩ := info_parts infoR
  have h := run_make (P := Tryz.prog) w 120 22 i _ Tryz.underlying120 hi h0 .i64 .i64 N N (by omega) (by omega) (by rw [h2]; omega) (by omega)
  rw [h1] at h
  simpa [Value.cells] using h
theorem IntsAt.nth {w : World} {v : Value} {x : List Int} (h : IntsAt w v x) {i : Nat} (hi : i < x.length) : ∃ b o cap, v = .slice (some ⟨b, o, none⟩) x.length cap ∧ b < w.heap.size ∧ w.cell? ⟨b, o + i, none⟩ = some (.int .i64 x[i]) := by
  obtain ⟨A, cap, rfl, _, hA⟩ := h
  obtain ⟨b, o, rfl, hb, hc⟩ := hA (by omega)
  exact ⟨b, o, cap, rfl, hb, hc i hi⟩
theorem IntsAt.form {w : World} {v : Value} {x : List Int} (h : IntsAt w v x) : ∃ ao cap, v = .slice ao x.length cap := by
  obtain ⟨A, cap, rfl, _, _⟩ := h
  exact ⟨_, _, rfl⟩
theorem castI_get (l : List Nat) (i : Nat) (h : i < l.length) : (castI l)[i]'(by simpa [castI] using h) = (l[i] : Int) := by simp [castI]
theorem castI_len (l : List Nat) : (castI l).length = l.length := by simp [castI]

/-- The greatest less the least. -/
def spanI (x : List Int) : Int := if x.length = 0 then 0 else Lib.maxOf x - Lib.minOf x


theorem head_mem {x : List Int} (h : 0 < x.length) : x.headD 0 ∈ x := by
  cases x with
  | nil => simp at h
  | cons a l => simp




end Go.Proofs.YtappfojjjegnpaaGreatDoor
