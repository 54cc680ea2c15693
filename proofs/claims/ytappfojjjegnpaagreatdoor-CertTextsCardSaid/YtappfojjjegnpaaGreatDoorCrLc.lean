/-
  The reference's Layers and Span; a list of arcs cloned; wakes answers true. Conditions: the graph is a dag whose layers are d; numbers within a million.
  The reference's Right and Order answer what the program's do. Conditions: none.
  The reference's Order answers what the program's does. Conditions: none.
  Ints raised till they fit; rows of ints with room. Conditions: none.
-/
import Derived.Test.YtappfojjjegnpaaGreatDoorCrLy
import Derived.Test.YtappfojjjegnpaaGreatDoorCrLa
import Derived.IntWalk
import Derived.Lib.SliceRun
import Derived.Test.YtappfojjjegnpaaGreatDoorCqG
import Derived.Test.YtappfojjjegnpaaGreatDoorCrLb
import Derived.StillTailTactics
namespace Go.Proofs.YtappfojjjegnpaaGreatDoor
open Go.RowKit Go.Proofs.YtappfojjjegnpaaGreatDoor.DagM

def RefLaid (N : Nat) (d : Nat → Nat) (w : World) (e : Ending) (w' : World) : Prop := ∃ v, e = .returned v ∧ OwnN w' w.heap.size v ((List.range N).map d) ∧ Below w.heap.size w w'
def RlOut (N : Nat) (d : Nat → Nat) (w wr : World) (iv : Value) : Prop := ∃ (r : Nat) (x : Nat → Nat), iv = .int .i64 r ∧ r ≤ N + 1 ∧ XsAt w wr w.heap.size N x ∧ LayRef d x r []
def RlIn (N : Nat) (L : List Arc) (d : Nat → Nat) (r : Nat) (w wr : World) (iv : Value) : Prop := ∃ (i : Nat) (x : Nat → Nat), iv = .int .i64 i ∧ i ≤ L.length ∧ XsAt w wr w.heap.size N x ∧ LayRef d x r (ends (L.take i))
theorem ends_mem (L : List Arc) (k : Nat) (h : k < L.length) : (L[k].1.toNat, L[k].2.1.toNat) ∈ ends L := List.mem_map.2 ⟨L[k], List.getElem_mem h, rfl⟩


def SpRel (x : List Int) (iv lv hv : Value) : Prop := ∃ (k : Nat) (l h : Int), iv = .int .i64 k ∧ lv = .int .i64 l ∧ hv = .int .i64 h ∧ k ≤ x.length ∧ (k = 0 → l = 0 ∧ h = 0) ∧ (0 < k → l = Lib.minOf (x.take k) ∧ h = Lib.maxOf (x.take k))
theorem spRel_next {x : List Int} {k : Nat} {l h y : Int} (hk : k < x.length) (hy : x.getD k 0 = y) (h0 : k = 0 → l = 0 ∧ h = 0) (h1 : 0 < k → l = Lib.minOf (x.take k) ∧ h = Lib.maxOf (x.take k)) :
    Lib.minOf (x.take (k + 1)) = (if k = 0 then y else min l y) ∧ Lib.maxOf (x.take (k + 1)) = (if k = 0 then y else max h y) := by
  by_cases e : k = 0
  · subst e
    rw [Lib.minOf_one, Lib.maxOf_one, hy]
    simp
  · rw [Lib.minOf_step x k (by omega) hk, Lib.maxOf_step x k (by omega) hk, hy, ← (h1 (by omega)).1, ← (h1 (by omega)).2, if_neg e, if_neg e]
    exact ⟨rfl, rfl⟩


/-- A clone of arcs in a row of the call's own. -/
def ClonedA (L : List Arc) (w : World) (e : Ending) (w' : World) : Prop := ∃ v', e = .returned v' ∧ OwnA w' w.heap.size v' L ∧ Below w.heap.size w w'
theorem infoA3c : (Tryz.prog.info? 50).map (fun i => (i.zero, i.size, i.bytes)) = some (some (.agg #[.int .i64 0, .int .i64 0, .int .i64 0]), 3, 24) := by kernel_rfl
theorem flat_one (L : List Arc) : ∀ u ∈ L.flatMap encA, u.oneCell' = true := fun u hu => by
  obtain ⟨a, _, h⟩ := List.mem_flatMap.1 hu
  exact encA_one a u h
theorem own_empty (w : World) (T : TypeId) (k : Nat) : (w.alloc (.cells #[] T)).ownsRow w.heap.size T k (.slice (some ⟨w.heap.size, 0, none⟩) 0 0) 0 [] := by
  exact ⟨by simp, Or.inr ⟨w.heap.size, 0, #[], rfl, Nat.le_refl _, heap_alloc_new w _, Nat.le_refl _, by simp, by simp, by simp⟩⟩


/-- The layers of a dag, known. -/
def LayIs (w : World) (l : List Int) (e : Ending) (w' : World) : Prop := ∃ v, e = .returned (.tuple #[v, .int .i64 0]) ∧ OwnI w' w.heap.size v l ∧ Below w.heap.size w w'


abbrev wkL : List Arc := [(0, 1, 0), (1, 2, 0), (0, 2, 0)]
def wkD : Nat → Nat := fun u => if u = 1 then 1 else if u = 2 then 2 else 0
theorem wk_ord : ordErr 3 wkL = 0 := by decide +kernel
theorem wk_lay : Lay (ends wkL) wkD := by
  refine ⟨by decide, fun w => ?_⟩
  by_cases h1 : w = 1
  · subst h1; exact Or.inr ⟨(0, 1), by decide, rfl, rfl⟩
  · by_cases h2 : w = 2
    · subst h2; exact Or.inr ⟨(1, 2), by decide, rfl, rfl⟩
    · exact Or.inl (by simp [wkD, h1, h2])
theorem wk_span : spanI [0, 1, 2] = 2 := by decide +kernel

end Go.Proofs.YtappfojjjegnpaaGreatDoor

namespace Go.Proofs.YtappfojjjegnpaaGreatDoor
open Go.RowKit Go.Proofs.YtappfojjjegnpaaGreatDoor.DagM

def RtRel (n : Int) (L : List Arc) (w wr : World) (iv : Value) : Prop := ∃ k : Nat, iv = .int .i64 k ∧ k ≤ L.length ∧ Below w.heap.size w wr ∧ (L.take k).any (badA n) = false
theorem badA_cases {n : Int} {a : Arc} (h : badA n a = true) : a.1 < 0 ∨ (0 ≤ a.1 ∧ n ≤ a.1) ∨ (0 ≤ a.1 ∧ a.1 < n ∧ a.2.1 < 0) ∨ (0 ≤ a.1 ∧ a.1 < n ∧ 0 ≤ a.2.1 ∧ n ≤ a.2.1) ∨ (0 ≤ a.1 ∧ a.1 < n ∧ 0 ≤ a.2.1 ∧ a.2.1 < n ∧ a.2.2 < 0) ∨ (0 ≤ a.1 ∧ a.1 < n ∧ 0 ≤ a.2.1 ∧ a.2.1 < n ∧ 0 ≤ a.2.2 ∧ 1000000 < a.2.2) := by
  have : ¬ (0 ≤ a.1 ∧ a.1 < n ∧ 0 ≤ a.2.1 ∧ a.2.1 < n ∧ 0 ≤ a.2.2 ∧ a.2.2 ≤ 1000000) := fun e => by rw [(badA_iff n a).2 e] at h; cases h
  omega

/-- The least of k.. below N that can come next, or -1. -/
def scan (E : EndL) (P : List Nat) (N k : Nat) : Int := match (List.range' k (N - k)).find? (free E P) with
  | none => -1
  | some u => (u : Int)
theorem scan_end (E : EndL) (P : List Nat) (N : Nat) : scan E P N N = -1 := by simp [scan]
theorem scan_step (E : EndL) (P : List Nat) (N k : Nat) (h : k < N) : scan E P N k = if free E P k then (k : Int) else scan E P N (k + 1) := by
  unfold scan
  have e : N - k = (N - (k + 1)) + 1 := by omega
  rw [e, List.range'_succ, List.find?_cons]
  by_cases hf : free E P k <;> simp [hf]
theorem scan_zero (E : EndL) (P : List Nat) (N : Nat) : (scan E P N 0 = -1 ∧ nextOf E N P = none) ∨ ∃ u, u < N ∧ scan E P N 0 = (u : Int) ∧ nextOf E N P = some u := by
  have e : nextOf E N P = (List.range' 0 (N - 0)).find? (free E P) := by rw [nextOf, List.range_eq_range']; rfl
  unfold scan
  rw [← e]
  cases h : nextOf E N P with
  | none => exact Or.inl ⟨rfl, rfl⟩
  | some u => exact Or.inr ⟨u, ((next_some u).1 h).1, rfl, rfl⟩
def okE (P : List Nat) (v : Nat) (e : Nat × Nat) : Bool := e.2 != v || P.contains e.1
theorem free_okE (E : EndL) (P : List Nat) (v : Nat) : free E P v = (!P.contains v && E.all (okE P v)) := rfl
theorem all_take {α : Type} (p : α → Bool) (L : List α) (k : Nat) (h : k < L.length) : (L.take (k + 1)).all p = ((L.take k).all p && p L[k]) := by
  rw [List.take_succ_eq_append_getElem h, List.all_append]
  simp
theorem all_part {α : Type} {p : α → Bool} {L : List α} {k : Nat} (h : (L.take k).all p = false) : L.all p = false := by
  rw [List.all_eq_false] at h ⊢
  obtain ⟨x, hx, hp⟩ := h
  exact ⟨x, List.mem_of_mem_take hx, hp⟩
theorem infoB : (Tryz.prog.info? 4).map (fun i => (i.zero, i.size, i.bytes)) = some (some (.bool false), 1, 1) := by kernel_rfl

theorem row_neT {w : World} {B B' n n' k k' : Nat} {v v' : Value} {xs xs' : List Value} {t t' : TypeId} (ht : t ≠ t') (h : w.ownsRow B t k v n xs) (h' : w.ownsRow B' t' k' v' n' xs') : ∀ b, v.ownBlock = some b → v'.ownBlock ≠ some b := by
  have key : ∀ {B n k : Nat} {v : Value} {xs : List Value} {t : TypeId}, w.ownsRow B t k v n xs → ∀ b, v.ownBlock = some b → ∃ cur, w.heap[b]? = some (.cells cur t (0, 0)) := by
    intro B n k v xs t h b hb
    rcases h.2 with ⟨rfl, _⟩ | ⟨g', cap', cur', rfl, _, hh', _⟩
    · simp [Value.ownBlock] at hb
    · simp only [Value.ownBlock, Option.some.injEq] at hb
      subst hb
      exact ⟨_, hh'⟩
  intro b hb hb'
  obtain ⟨c1, e1⟩ := key h b hb
  obtain ⟨c2, e2⟩ := key h' b hb'
  rw [e1] at e2
  injection e2 with e2
  injection e2 with _ e3
  exact ht e3
/-- Where the reference's Order stands: which nodes have come, at g; the order in lv. -/
structure RoAt (w0 w : World) (g N : Nat) (C : Nat → Bool) (P : List Nat) (lv : Value) : Prop where
  below : Below w0.heap.size w0 w
  g0 : w0.heap.size ≤ g
  come : w.ownsRow w0.heap.size 4 1 (.slice (some ⟨g, 0, none⟩) N N) N ((List.range N).map fun v => .bool (C v))
  ord : OwnN w w0.heap.size lv P
section
variable {w0 w w' : World} {g N : Nat} {C : Nat → Bool} {P : List Nat} {lv : Value}
theorem RoAt.cell (h : RoAt w0 w g N C P lv) {v : Nat} (hv : v < N) : w.cell? ⟨g, v, none⟩ = some (.bool (C v)) := by
  rw [h.come.cellAt v (by simpa using hv)]
  simp [hv]
theorem RoAt.quiet (h : RoAt w0 w g N C P lv) (o : Below w.heap.size w w') : RoAt w0 w' g N C P lv :=
  ⟨h.below.trans (o.mono h.below.size), h.g0, ownsRow_out (S := fun _ => False) h.come (Out.ofBelow o) (fun _ _ e => e), ownsRow_out (S := fun _ => False) h.ord (Out.ofBelow o) (fun _ _ e => e)⟩
theorem RoAt.put (h : RoAt w0 w g N C P lv) (u : Nat) : RoAt w0 (w.setCell ⟨g, u, none⟩ (.bool true)) g N (fun v => if v = u then true else C v) P lv := by
  have o2 : Out (fun b => b = g) w (w.setCell ⟨g, u, none⟩ (.bool true)) := Out.setCell (S := fun b => b = g) (Out.refl _ w) (p := ⟨g, u, none⟩) (fun _ => rfl) _
  refine ⟨h.below.trans (o2.below h.below.size (fun i _ e => by subst e; exact h.g0)), h.g0, ?_, ownsRow_out h.ord o2 (fun b hb e => by subst e; exact row_neT (by decide) h.come h.ord b rfl hb)⟩
  have e : ((List.range N).map fun v => Value.bool (if v = u then true else C v)) = ((List.range N).map fun v => Value.bool (C v)).set u (.bool true) := by
    rw [← map_set]
    exact List.map_congr_left (fun v _ => by by_cases e : v = u <;> simp [e])
  rw [e]
  exact (h.come.stored u _).1
theorem RoAt.app (h : RoAt w0 w g N C P lv) {lv' : Value} {P' : List Nat} (hg : w.grownBy w' lv.ownBlock) (ho : OwnN w' w0.heap.size lv' P') : RoAt w0 w' g N C P' lv' := by
  have o : Out (fun b => lv.ownBlock = some b) w w' := (Out.refl _ w).grown hg (fun _ _ e => e)
  exact ⟨h.below.trans (o.below h.below.size (fun i _ e => (h.ord.lt i e).1)), h.g0, ownsRow_out h.come o (row_neT (by decide) h.come h.ord), ho⟩
end
def RoRel (E : EndL) (N g : Nat) (w wr : World) (lv : Value) : Prop := ∃ P, RoAt w wr g N (fun v => P.contains v) P lv ∧ Gr E N P
def ScRel (E : EndL) (P : List Nat) (N : Nat) (nv vv : Value) : Prop := ∃ (k : Nat) (z : Int), k ≤ N ∧ z = (k : Int) - 1 ∧ vv = .int .i64 z ∧ nv = .int .i64 (scan E P N k)
def okA (P : List Nat) (v : Nat) (a : Arc) : Bool := okE P v (a.1.toNat, a.2.1.toNat)
theorem free_okA (L : List Arc) (P : List Nat) (v : Nat) : free (ends L) P v = (!P.contains v && L.all (okA P v)) := by
  rw [free_okE]
  unfold ends
  rw [List.all_map]
  rfl
def FrRel (L : List Arc) (P : List Nat) (v : Nat) (fv iv : Value) : Prop := ∃ i : Nat, i ≤ L.length ∧ iv = .int .i64 i ∧ fv = .bool (!P.contains v && (L.take i).all (okA P v))
theorem contains_snoc (P : List Nat) (u : Nat) : (fun v => if v = u then true else P.contains v) = fun v => (P ++ [u]).contains v := by
  funext v
  by_cases h : v = u
  · subst h; simp
  · simp [h]
end Go.Proofs.YtappfojjjegnpaaGreatDoor

namespace Go.Proofs.YtappfojjjegnpaaGreatDoor
open Go.RowKit Go.Proofs.YtappfojjjegnpaaGreatDoor.DagM

theorem newsNb (w : World) (t : TypeId) (x b : Nat) (hb : w.heap.size = b) : ∀ j z, [encNat x][j]? = some z → (w.alloc (.cells #[.int .i64 (x : Int)] t)).cell? ((⟨b, 0, none⟩ : Addr).add j) = some z := by
  subst hb
  exact newsN w t x

end Go.Proofs.YtappfojjjegnpaaGreatDoor

namespace Go.Proofs.YtappfojjjegnpaaGreatDoor
open Go.RowKit Go.Proofs.YtappfojjjegnpaaGreatDoor.DagM

/-- Ints raised: r rounds are done, and of the next one the arcs K. -/
structure RaisZ (E : EndL) (x : Nat → Int) (r : Nat) (K : EndL) : Prop where
  sat : ∀ e ∈ E, e.2 ≤ r → x e.1 + 1 ≤ x e.2
  cur : ∀ e ∈ K, e.2 ≤ r + 1 → x e.1 + 1 ≤ x e.2
  lo : ∀ u, -100 ≤ x u
  hi : ∀ u, x u ≤ 100 + u
section
variable {E : EndL} {x : Nat → Int} {a b : Nat}
theorem raisZ_nil (hr : ∀ e ∈ E, e.1 < e.2) (lo : ∀ u, -100 ≤ x u) (hi : ∀ u, x u ≤ 100) : RaisZ E x 0 [] := ⟨fun e he h => by have := hr e he; omega, fun e he => by simp at he, lo, fun u => by have := hi u; omega⟩
theorem RaisZ.step {K : EndL} {r : Nat} (hr : ∀ e ∈ E, e.1 < e.2) (h : RaisZ E x r K) (hK : ∀ e ∈ K, e ∈ E) (he : (a, b) ∈ E) : RaisZ E (fun u => if u = b then max (x b) (x a + 1) else x u) r (K ++ [(a, b)]) := by
  have hab := hr _ he
  simp only at hab
  have hs := h.sat _ he
  simp only at hs
  have key : ∀ e : Nat × Nat, e.1 < e.2 → (b ≤ r → x a + 1 ≤ x b) → e.2 ≤ r + 1 → x e.1 + 1 ≤ x e.2 → (fun u => if u = b then max (x b) (x a + 1) else x u) e.1 + 1 ≤ (fun u => if u = b then max (x b) (x a + 1) else x u) e.2 := by
    intro e h3 hb h2 h4
    by_cases e1 : e.1 = b
    · have e2 : ¬ e.2 = b := by omega
      have := hb (by omega)
      simp only [e1, if_true, if_neg e2]
      rw [e1] at h4
      omega
    · by_cases e2 : e.2 = b
      · simp only [e2, if_true, if_neg e1]
        rw [e2] at h4
        omega
      · simp only [if_neg e1, if_neg e2]
        exact h4
  refine ⟨fun e h1 h2 => key e (hr e h1) hs (by omega) (h.sat e h1 h2), fun e h1 h2 => ?_, fun u => ?_, fun u => ?_⟩
  · rcases List.mem_append.1 h1 with h1 | h1
    · exact key e (hr e (hK e h1)) hs h2 (h.cur e h1 h2)
    · obtain rfl := List.mem_singleton.1 h1
      have e1 : ¬ a = b := by omega
      simp only [if_true, if_neg e1]
      omega
  · have := h.lo u
    have := h.lo b
    by_cases e : u = b
    · simp only [e, if_true]; omega
    · simp only [if_neg e]; omega
  · have := h.hi u
    have := h.hi a
    have := h.hi b
    by_cases e : u = b
    · simp only [e, if_true]; omega
    · simp only [if_neg e]; omega
theorem RaisZ.round {r : Nat} (h : RaisZ E x r E) : RaisZ E x (r + 1) [] := ⟨fun e he h2 => h.cur e he h2, fun e he => by simp at he, h.lo, h.hi⟩
end
theorem raised_fit {n : Nat} {L : List Arc} {x : Nat → Int} (hM : May n L) (h : ∀ e ∈ ends L, x e.1 + 1 ≤ x e.2) : fitB ((List.range n).map x) L = true := by
  unfold fitB
  rw [List.all_eq_true]
  intro a ha
  have ok := hM.ok a ha
  have := h _ (List.mem_map.2 ⟨a, ha, rfl⟩)
  have v : ∀ i : Int, 0 ≤ i → i < n → val ((List.range n).map x) i = x i.toNat := fun i h0 h1 => by
    have : i.toNat < n := by omega
    simp [val, List.getD_eq_getElem?_getD, this]
  simp only at this
  simp only [fitA, decide_eq_true_eq]
  rw [v _ ok.1 ok.2.1, v _ ok.2.2.1 ok.2.2.2.1]
  omega
/-- The ints s of n nodes, in a row of the call's own at g with room for cap. -/
structure XzAt (w0 w : World) (g cap n : Nat) (s : Nat → Int) : Prop where
  below : Below w0.heap.size w0 w
  g0 : w0.heap.size ≤ g
  row : w.ownsRow w0.heap.size 3 1 (.slice (some ⟨g, 0, none⟩) n cap) n ((List.range n).map fun v => encInt (s v))
section
variable {w0 w w' : World} {g cap n : Nat} {s : Nat → Int}
theorem XzAt.gl (h : XzAt w0 w g cap n s) : g < w.heap.size := (h.row.lt g rfl).2
theorem XzAt.quiet (h : XzAt w0 w g cap n s) (o : Below w.heap.size w w') : XzAt w0 w' g cap n s :=
  ⟨h.below.trans (o.mono h.below.size), h.g0, ownsRow_out (S := fun _ => False) h.row (Out.ofBelow o) (fun _ _ e => e)⟩
theorem XzAt.set (h : XzAt w0 w g cap n s) (t : Nat) (d : Int) : XzAt w0 (w.setCell ⟨g, t, none⟩ (.int .i64 d)) g cap n (fun v => if v = t then d else s v) := by
  have o2 : Out (fun b => b = g) w (w.setCell ⟨g, t, none⟩ (.int .i64 d)) := Out.setCell (S := fun b => b = g) (Out.refl _ w) (p := ⟨g, t, none⟩) (fun _ => rfl) _
  refine ⟨h.below.trans (o2.below h.below.size (fun i _ e => by subst e; exact h.g0)), h.g0, ?_⟩
  have e : ((List.range n).map fun v => encInt (if v = t then d else s v)) = ((List.range n).map fun v => encInt (s v)).set t (.int .i64 d) := by
    rw [← map_set]
    exact List.map_congr_left (fun v _ => by by_cases e : v = t <;> simp [e, encInt])
  rw [e]
  exact (h.row.stored t _).1
theorem XzAt.cell (h : XzAt w0 w g cap n s) {v : Nat} (hv : v < n) : w.cell? ⟨g, v, none⟩ = some (.int .i64 (s v)) := by
  rw [h.row.cellAt v (by simpa using hv)]
  simp [hv, encInt]
theorem XzAt.fr (h : XzAt w0 w g cap n s) (v : Nat) : w.frozen? ⟨g, v, none⟩ = false := h.row.frozenAt v
theorem XzAt.own (h : XzAt w0 w g cap n s) : OwnI w w0.heap.size (.slice (some ⟨g, 0, none⟩) n cap) ((List.range n).map s) := by
  have := h.row
  unfold OwnI
  rw [List.length_map, List.length_range, List.map_map]
  exact this
theorem XzAt.turn {s' : Nat → Int} (h : XzAt w0 w g cap n s) (e : ∀ v, v < n → s v = s' v) : XzAt w0 w g cap n s' := by
  refine ⟨h.below, h.g0, ?_⟩
  have e2 : ((List.range n).map fun v => encInt (s' v)) = (List.range n).map fun v => encInt (s v) := List.map_congr_left (fun v hv => by rw [e v (by simpa using hv)])
  rw [e2]
  exact h.row
/-- A row of ints of the call's own, with room. -/
theorem OwnI.xz {v : Value} {x : List Int} (hb : Below w0.heap.size w0 w) (h : OwnI w w0.heap.size v x) (h0 : 0 < x.length) : ∃ g cap, v = .slice (some ⟨g, 0, none⟩) x.length cap ∧ XzAt w0 w g cap x.length (fun u => x.getD u 0) := by
  rcases h.2 with ⟨_, h2⟩ | ⟨g, cap, _, hv, hg, _⟩
  · omega
  · subst hv
    refine ⟨g, cap, rfl, hb, hg, ?_⟩
    have e : ((List.range x.length).map fun v => encInt (x.getD v 0)) = x.map (Value.int .i64) := by
      apply List.ext_getElem
      · simp
      · intro i h1 h2
        have : i < x.length := by simpa using h2
        simp [encInt, List.getD_eq_getElem?_getD, this]
    rw [e]
    exact h
end
theorem coord_map {n : Nat} {x : Nat → Int} (h : ∀ u, u < n → -1000000 ≤ x u ∧ x u ≤ 1000000) : coordB n ((List.range n).map x) = true := by
  unfold coordB
  simp only [Bool.and_eq_true, decide_eq_true_eq, Bool.not_eq_true', List.any_eq_false]
  refine ⟨by simp, fun y hy => ?_⟩
  obtain ⟨u, hu, rfl⟩ := List.mem_map.1 hy
  have := h u (by simpa using hu)
  simp [far]
  omega
end Go.Proofs.YtappfojjjegnpaaGreatDoor
