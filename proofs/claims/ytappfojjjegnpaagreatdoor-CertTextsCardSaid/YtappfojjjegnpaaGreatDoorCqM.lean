/-
  Graphs in plain mathematics: which arcs may be, what comes next, the order; what is missing of a node; that order by a heap. Conditions: none.
  Costs in plain mathematics: what coordinates cost, when they fit, errors. Conditions: none.
  Ranks in plain mathematics: the sorted numbers without doubles; how many are less; ranks keep the order and cost no more. Conditions: none.
  Layers in plain mathematics: what they are, that they are the least, that there is one; the code's state (node by node) and the document's (raised round by round). Conditions: none.
  Flows in plain mathematics: what flows from a node, right flows, that no right flow is more than what coordinates that fit cost. Conditions: none.
  A dag through which something flows, in plain mathematics: steps along arcs and back, distances by slack and by steps back, and the search for the nearest node. Conditions: none.
  Sums over a dag's nodes and arcs; that what is left has a way; coordinates that are lowered; what is left when nothing is left. Conditions: none.
  Ways from what has something left to where something is missing: levels, the search of one way after the other, nodes that lead nowhere, what flows along a way. Conditions: none.
  What letFlow leaves, by ranks, solves the dag. Conditions: the graph may be.
-/
import Derived.Test.YtappfojjjegnpaaGreatDoorHeapM
import Derived.Lib.SlicesCompact
namespace Go.Proofs.YtappfojjjegnpaaGreatDoor.DagM

abbrev Arc := Int × Int × Int
def badA (n : Int) (a : Arc) : Bool := !(decide (0 ≤ a.1) && decide (a.1 < n)) || !(decide (0 ≤ a.2.1) && decide (a.2.1 < n)) || decide (a.2.2 < 0) || decide (1000000 < a.2.2)
def mayB (n : Int) (L : List Arc) : Bool := !decide (n < 0) && !decide (4096 < n) && !decide (16384 < L.length) && !L.any (badA n)
structure May (n : Int) (L : List Arc) : Prop where
  n0 : 0 ≤ n
  n1 : n ≤ 4096
  len : L.length ≤ 16384
  ok : ∀ a ∈ L, 0 ≤ a.1 ∧ a.1 < n ∧ 0 ≤ a.2.1 ∧ a.2.1 < n ∧ 0 ≤ a.2.2 ∧ a.2.2 ≤ 1000000
theorem badA_iff (n : Int) (a : Arc) : badA n a = false ↔ 0 ≤ a.1 ∧ a.1 < n ∧ 0 ≤ a.2.1 ∧ a.2.1 < n ∧ 0 ≤ a.2.2 ∧ a.2.2 ≤ 1000000 := by
  simp only [badA, Bool.or_eq_false_iff, Bool.not_eq_false', Bool.and_eq_true, decide_eq_true_eq, decide_eq_false_iff_not]
  omega
theorem mayB_iff (n : Int) (L : List Arc) : mayB n L = true ↔ May n L := by
  simp only [mayB, Bool.and_eq_true, Bool.not_eq_true', decide_eq_false_iff_not, List.any_eq_false]
  constructor
  · rintro ⟨⟨⟨h1, h2⟩, h3⟩, h4⟩
    exact ⟨by omega, by omega, by omega, fun a ha => (badA_iff n a).1 (by simpa using h4 a ha)⟩
  · intro h
    exact ⟨⟨⟨by have := h.n0; omega, by have := h.n1; omega⟩, by have := h.len; omega⟩, fun a ha => by simpa using (badA_iff n a).2 (h.ok a ha)⟩

abbrev EndL := List (Nat × Nat)
def ends (L : List Arc) : EndL := L.map fun a => (a.1.toNat, a.2.1.toNat)

def free (E : EndL) (P : List Nat) (v : Nat) : Bool := !P.contains v && E.all fun e => e.2 != v || P.contains e.1
def nextOf (E : EndL) (n : Nat) (P : List Nat) : Option Nat := (List.range n).find? (free E P)
def Gr (E : EndL) (n : Nat) (P : List Nat) : Prop := ∀ i (h : i < P.length), nextOf E n (P.take i) = some P[i]
def greedy (E : EndL) (n : Nat) : Nat → List Nat → List Nat
  | 0, P => P
  | f + 1, P => match nextOf E n P with
    | none => P
    | some v => greedy E n f (P ++ [v])
def topo (E : EndL) (n : Nat) : List Nat := greedy E n n []

variable {E : EndL} {n : Nat} {P Q : List Nat}
theorem free_iff (v : Nat) : free E P v = true ↔ v ∉ P ∧ ∀ e ∈ E, e.2 = v → e.1 ∈ P := by
  simp only [free, Bool.and_eq_true, Bool.not_eq_true', List.all_eq_true, Bool.or_eq_true, bne_iff_ne, ne_eq, List.contains_iff_mem]
  constructor
  · rintro ⟨h1, h2⟩
    refine ⟨fun h => ?_, fun e he hv => ?_⟩
    · rw [List.contains_iff_mem.2 h] at h1; cases h1
    · rcases h2 e he with h | h
      · exact absurd hv h
      · exact h
  · rintro ⟨h1, h2⟩
    refine ⟨?_, fun e he => ?_⟩
    · cases h : P.contains v
      · rfl
      · exact absurd (List.contains_iff_mem.1 h) h1
    · by_cases hv : e.2 = v
      · exact Or.inr (h2 e he hv)
      · exact Or.inl hv
theorem next_some (v : Nat) : nextOf E n P = some v ↔ v < n ∧ free E P v = true ∧ ∀ u, u < v → free E P u = false := by
  unfold nextOf
  rw [List.find?_range_eq_some]
  simp only [List.mem_range, Bool.not_eq_true']
  exact ⟨fun ⟨a, b, c⟩ => ⟨b, a, c⟩, fun ⟨a, b, c⟩ => ⟨b, a, c⟩⟩
theorem next_none : nextOf E n P = none ↔ ∀ u, u < n → free E P u = false := by
  unfold nextOf
  rw [List.find?_eq_none]
  simp

theorem gr_nil : Gr E n [] := fun i h => absurd h (by simp)
theorem gr_snoc {v : Nat} (h : Gr E n P) (hv : nextOf E n P = some v) : Gr E n (P ++ [v]) := by
  intro i hi
  simp only [List.length_append, List.length_singleton] at hi
  by_cases h1 : i < P.length
  · rw [List.take_append_of_le_length (by omega), List.getElem_append_left h1]
    exact h i h1
  · have : i = P.length := by omega
    subst this
    simp [hv]
theorem gr_take (h : Gr E n P) (k : Nat) : Gr E n (P.take k) := by
  intro i hi
  have hk : i < k := by simp at hi; omega
  have hp : i < P.length := by simp at hi; omega
  rw [List.take_take, Nat.min_eq_left (by omega), List.getElem_take]
  exact h i hp
theorem gr_lt (h : Gr E n P) : ∀ v ∈ P, v < n := by
  intro v hv
  obtain ⟨i, hi, rfl⟩ := List.getElem_of_mem hv
  exact ((next_some _).1 (h i hi)).1
theorem gr_not (h : Gr E n P) {i : Nat} (hi : i < P.length) : P[i] ∉ P.take i := ((free_iff _).1 ((next_some _).1 (h i hi)).2.1).1
theorem gr_in (h : Gr E n P) {i : Nat} (hi : i < P.length) {e : Nat × Nat} (he : e ∈ E) (hv : e.2 = P[i]) : e.1 ∈ P.take i := ((free_iff _).1 ((next_some _).1 (h i hi)).2.1).2 e he hv
theorem gr_nodup (h : Gr E n P) : P.Nodup := by
  rw [List.nodup_iff_pairwise_ne, List.pairwise_iff_getElem]
  intro i j hi hj hij e
  refine gr_not h hj ?_
  rw [← e]
  exact List.mem_iff_getElem.2 ⟨i, by simp; omega, by simp⟩
theorem pigeon : ∀ {n : Nat} {P : List Nat}, P.Nodup → (∀ v ∈ P, v < n) → P.length ≤ n := by
  intro n
  induction n with
  | zero =>
    intro P _ h
    cases P with
    | nil => simp
    | cons a P => exact absurd (h a (by simp)) (by omega)
  | succ n ih =>
    intro P hd h
    by_cases hn : n ∈ P
    · have h1 := ih (P := P.erase n) (hd.erase n) (fun v hv => by
        have h2 := hd.mem_erase_iff.1 hv
        have := h v h2.2
        have := h2.1
        omega)
      rw [List.length_erase_of_mem hn] at h1
      omega
    · have := ih hd (fun v hv => by
        have := h v hv
        have : v ≠ n := fun e => hn (e ▸ hv)
        omega)
      omega
theorem gr_len (h : Gr E n P) : P.length ≤ n := pigeon (gr_nodup h) (gr_lt h)
theorem gr_full (h : Gr E n P) (hl : P.length = n) : nextOf E n P = none := by
  rw [next_none]
  intro u hu
  cases e : free E P u
  · rfl
  · exfalso
    have h1 := ((free_iff u).1 e).1
    have := pigeon (n := n) (P := u :: P) (List.nodup_cons.2 ⟨h1, gr_nodup h⟩) (fun v hv => by
      rcases List.mem_cons.1 hv with rfl | hv
      · exact hu
      · exact gr_lt h v hv)
    simp at this
    omega
theorem gr_same (h : Gr E n P) (k : Gr E n Q) : ∀ i, i ≤ P.length → i ≤ Q.length → P.take i = Q.take i := by
  intro i
  induction i with
  | zero => simp
  | succ i ih =>
    intro hp hq
    have e := ih (by omega) (by omega)
    have h1 := h i (by omega)
    rw [e, k i (by omega)] at h1
    rw [List.take_succ_eq_append_getElem (by omega), List.take_succ_eq_append_getElem (by omega), e, Option.some.inj h1]
theorem gr_uniq (h : Gr E n P) (hn : nextOf E n P = none) (k : Gr E n Q) (kn : nextOf E n Q = none) : P = Q := by
  have go : ∀ {P Q : List Nat}, Gr E n P → nextOf E n P = none → Gr E n Q → ¬ P.length < Q.length := by
    intro P Q h hn k hl
    have e := gr_same h k P.length (by omega) (by omega)
    rw [List.take_length] at e
    have := k P.length hl
    rw [← e, hn] at this
    cases this
  have e1 := go h hn k
  have e2 := go k kn h
  have e := gr_same h k P.length (by omega) (by omega)
  rw [List.take_length, List.take_of_length_le (by omega)] at e
  exact e
theorem greedy_gr : ∀ (f : Nat) (P : List Nat), Gr E n P → n ≤ P.length + f → Gr E n (greedy E n f P) ∧ nextOf E n (greedy E n f P) = none
  | 0, P, h, hl => by
    show Gr E n P ∧ nextOf E n P = none
    exact ⟨h, gr_full h (by have := gr_len h; omega)⟩
  | f + 1, P, h, hl => by
    unfold greedy
    cases e : nextOf E n P with
    | none => exact ⟨h, e⟩
    | some v => exact greedy_gr f (P ++ [v]) (gr_snoc h e) (by simp; omega)
theorem topo_gr : Gr E n (topo E n) ∧ nextOf E n (topo E n) = none := greedy_gr n [] gr_nil (by simp)
theorem topo_uniq (h : Gr E n P) (hn : nextOf E n P = none) : P = topo E n := gr_uniq h hn topo_gr.1 topo_gr.2

/-- Where a number rises along each arc, all nodes come. -/
theorem topo_rises (x : Nat → Int) (hE : ∀ e ∈ E, e.1 < n ∧ x e.1 < x e.2) : (topo E n).length = n := by
  obtain ⟨h, hn⟩ := topo_gr (E := E) (n := n)
  rw [next_none] at hn
  have hl := gr_len h
  have all : ∀ (k : Nat) (u : Nat), u < n → (∀ u', u' < n → ¬ x u' < x u - (k : Int)) → u ∈ topo E n := by
    intro k
    induction k with
    | zero =>
      intro u hu hm
      apply Classical.byContradiction
      intro hno
      have := hn u hu
      have h2 : free E (topo E n) u = true := (free_iff u).2 ⟨hno, fun e he hv => by
        have h3 := hE e he
        subst hv
        exact absurd (by simpa using h3.2) (hm e.1 h3.1)⟩
      rw [h2] at this
      cases this
    | succ k ih =>
      intro u hu hm
      apply Classical.byContradiction
      intro hno
      have := hn u hu
      have h2 : free E (topo E n) u = true := (free_iff u).2 ⟨hno, fun e he hv => by
        have h3 := hE e he
        subst hv
        exact ih e.1 h3.1 (fun u' hu' hlt => hm u' hu' (by push_cast; omega))⟩
      rw [h2] at this
      cases this
  have low : ∀ m : Nat, ∃ b : Int, ∀ u, u < m → b ≤ x u := by
    intro m
    induction m with
    | zero => exact ⟨0, fun u hu => absurd hu (by omega)⟩
    | succ m ih =>
      obtain ⟨b, hb⟩ := ih
      refine ⟨min b (x m), fun u hu => ?_⟩
      by_cases e : u = m
      · subst e; omega
      · have := hb u (by omega); omega
  obtain ⟨b, hb⟩ := low n
  have every : ∀ u, u < n → u ∈ topo E n := fun u hu => all (x u - b).toNat u hu (fun u' hu' => by have := hb u' hu'; have := hb u hu; omega)
  have := (List.nodup_range (n := n)).length_le_of_subset (fun u hu => every u (by simpa using hu))
  simp at this
  omega

/-- How many arcs lead to w from nodes that are not in P. -/
def miss (E : EndL) (P : List Nat) (w : Nat) : Nat := E.countP fun e => e.2 == w && !P.contains e.1
/-- Where the arcs from v lead. -/
def outs (E : EndL) (v : Nat) : List Nat := (E.filter fun e => e.1 == v).map Prod.snd
theorem free_miss (v : Nat) : free E P v = true ↔ v ∉ P ∧ miss E P v = 0 := by
  rw [free_iff]
  refine and_congr_right fun _ => ?_
  unfold miss
  rw [List.countP_eq_zero]
  simp only [Bool.and_eq_true, beq_iff_eq, Bool.not_eq_true', not_and, Bool.not_eq_false, List.contains_iff_mem]
theorem miss_snoc {v : Nat} (hv : v ∉ P) (w : Nat) : miss E P w = miss E (P ++ [v]) w + (outs E v).count w := by
  unfold miss outs
  induction E with
  | nil => simp
  | cons e E ih =>
    have ih' := ih
    simp only [List.countP_cons, List.filter_cons]
    by_cases h1 : e.1 = v
    · subst h1
      by_cases h2 : e.2 = w
      · subst h2
        simp [hv]
        simp at ih'
        omega
      · simp [h2]
        simp at ih'
        omega
    · have h3 : (e.1 == v) = false := by simpa using h1
      by_cases h2 : e.2 = w
      · by_cases h4 : e.1 ∈ P
        · simp [h1, h2, h4]
          simp at ih'
          omega
        · simp [h1, h2, h4]
          simp at ih'
          omega
      · simp [h1, h2]
        simp at ih'
        omega
theorem miss_le (w : Nat) : miss E P w ≤ E.length := List.countP_le_length
theorem outs_mem {v w : Nat} (h : w ∈ outs E v) : (v, w) ∈ E := by
  unfold outs at h
  obtain ⟨e, he, rfl⟩ := List.mem_map.1 h
  obtain ⟨h1, h2⟩ := List.mem_filter.1 he
  have : e.1 = v := by simpa using h2
  subst this
  exact h1
/-- An arc from the last of an order leads to none of it. -/
theorem gr_fresh {v w : Nat} (h : Gr E n (P ++ [v])) (he : (v, w) ∈ E) : w ∉ P ++ [v] := by
  intro hw
  obtain ⟨i, hi, e⟩ := List.getElem_of_mem hw
  have h1 := gr_in h hi he e.symm
  have hd := gr_nodup h
  have hi' : i ≤ P.length := by simp at hi; omega
  rw [List.take_append_of_le_length hi'] at h1
  have := (List.nodup_append.1 hd).2.2
  exact absurd rfl (this v (List.mem_of_mem_take h1) v (by simp))

/-- What the heap holds: all that can come, each once. -/
structure Rdy (n : Nat) (P : List Nat) (m : Nat → Nat) (L : List Nat) : Prop where
  nd : L.Nodup
  iff : ∀ w, w ∈ L ↔ w < n ∧ w ∉ P ∧ m w = 0
theorem rdy_first (m : Nat → Nat) : Rdy n [] m ((List.range n).filter fun v => m v == 0) := by
  refine ⟨List.Nodup.sublist List.filter_sublist List.nodup_range, fun w => ?_⟩
  simp
theorem rdy_next {L : List Nat} (h : Rdy n P (miss E P) L) {a : Nat} (ha : a < L.length) (hl : ∀ b (hb : b < L.length), L[a] ≤ L[b]) : nextOf E n P = some L[a] := by
  rw [next_some]
  have h1 := (h.iff L[a]).1 (List.getElem_mem ha)
  refine ⟨h1.1, (free_miss _).2 h1.2, fun u hu => ?_⟩
  cases e : free E P u
  · rfl
  · exfalso
    have h2 := (free_miss u).1 e
    obtain ⟨b, hb, eb⟩ := List.getElem_of_mem ((h.iff u).2 ⟨by omega, h2⟩)
    have := hl b hb
    omega
theorem rdy_none (h : Rdy n P (miss E P) []) : nextOf E n P = none := by
  rw [next_none]
  intro u hu
  cases e : free E P u
  · rfl
  · exact absurd ((h.iff u).2 ⟨hu, (free_miss u).1 e⟩) (by simp)
theorem rdy_pop {L : List Nat} (h : Rdy n P (miss E P) L) {a : Nat} (ha : a < L.length) : Rdy n (P ++ [L[a]]) (fun w => miss E (P ++ [L[a]]) w + (outs E L[a]).count w) (L.eraseIdx a) := by
  have h1 := (h.iff L[a]).1 (List.getElem_mem ha)
  refine ⟨h.nd.sublist (List.eraseIdx_sublist _ _), fun w => ?_⟩
  rw [← miss_snoc h1.2.1]
  have e : w ∈ L.eraseIdx a ↔ w ∈ L ∧ w ≠ L[a] := by
    rw [← List.erase_eq_eraseIdx_of_idxOf (i := a) (a := L[a])]
    · rw [h.nd.mem_erase_iff]; exact and_comm
    · exact h.nd.idxOf_getElem a ha
  rw [e, h.iff]
  simp only [List.mem_append, List.mem_singleton, not_or]
  constructor
  · rintro ⟨⟨a1, a2, a3⟩, a4⟩; exact ⟨a1, ⟨a2, a4⟩, a3⟩
  · rintro ⟨a1, ⟨a2, a4⟩, a3⟩; exact ⟨⟨a1, a2, a3⟩, a4⟩
theorem rdy_step {L B : List Nat} {f : Nat → Nat} {k : Nat} (hk : k < B.length) (hn : B[k] < n) (hP : B[k] ∉ P) (h : Rdy n P (fun w => f w + (B.drop k).count w) L) :
    Rdy n P (fun w => f w + (B.drop (k + 1)).count w) (if f B[k] + (B.drop (k + 1)).count B[k] = 0 then L ++ [B[k]] else L) := by
  have hd : ∀ w, (B.drop k).count w = (B.drop (k + 1)).count w + if B[k] = w then 1 else 0 := by
    intro w
    rw [List.drop_eq_getElem_cons hk, List.count_cons]
    by_cases e : B[k] = w <;> simp [e]
  have hno : B[k] ∉ L := fun e => by
    have h9 : f B[k] + (B.drop k).count B[k] = 0 := ((h.iff _).1 e).2.2
    rw [hd B[k], if_pos rfl] at h9
    omega
  have hi : ∀ w, w ∈ L ↔ w < n ∧ w ∉ P ∧ f w + ((B.drop (k + 1)).count w + if B[k] = w then 1 else 0) = 0 := fun w => by
    rw [h.iff w, ← hd w]
  split
  · rename_i h0
    refine ⟨List.nodup_append.2 ⟨h.nd, by simp, fun x hx y hy e => hno (by rw [List.mem_singleton.1 hy] at e; exact e ▸ hx)⟩, fun w => ?_⟩
    rw [List.mem_append, List.mem_singleton]
    by_cases e : B[k] = w
    · subst e
      exact ⟨fun _ => ⟨hn, hP, h0⟩, fun _ => Or.inr rfl⟩
    · rw [hi w, if_neg e]
      constructor
      · rintro (⟨a1, a2, a3⟩ | a)
        · exact ⟨a1, a2, by omega⟩
        · exact absurd a.symm e
      · rintro ⟨a1, a2, a3⟩
        exact Or.inl ⟨a1, a2, by omega⟩
  · rename_i h0
    refine ⟨h.nd, fun w => ?_⟩
    by_cases e : B[k] = w
    · subst e
      exact ⟨fun h => absurd h hno, fun h => absurd h.2.2 h0⟩
    · rw [hi w, if_neg e]; simp
end Go.Proofs.YtappfojjjegnpaaGreatDoor.DagM

namespace Go.Proofs.YtappfojjjegnpaaGreatDoor.DagM

def ordErr (n : Int) (L : List Arc) : Int := if mayB n L then (if (topo (ends L) n.toNat).length < n.toNat then 11 else 0) else 2
def ordRes (n : Int) (L : List Arc) : List Nat := if mayB n L then (if (topo (ends L) n.toNat).length < n.toNat then [] else topo (ends L) n.toNat) else []
theorem ordErr_ok {n : Int} {L : List Arc} (h : May n L) : ordErr n L = if (topo (ends L) n.toNat).length < n.toNat then 11 else 0 := by
  unfold ordErr
  rw [if_pos ((mayB_iff n L).2 h)]
theorem ordErr_may {n : Int} {L : List Arc} (h : ordErr n L = 0) : May n L := by
  unfold ordErr at h
  by_cases e : mayB n L = true
  · exact (mayB_iff n L).1 e
  · rw [if_neg e] at h; omega
theorem ordErr_range (n : Int) (L : List Arc) : 0 ≤ ordErr n L ∧ ordErr n L ≤ 11 := by
  unfold ordErr
  split
  · split <;> omega
  · omega
/-- Where a number rises along each arc, the order is whole. -/
theorem ord_rises {n : Int} {L : List Arc} (h : May n L) (x : Nat → Int) (hx : ∀ a ∈ L, x a.1.toNat < x a.2.1.toNat) : ordErr n L = 0 := by
  rw [ordErr_ok h]
  have := topo_rises (E := ends L) (n := n.toNat) x (fun e he => by
    obtain ⟨a, ha, rfl⟩ := List.mem_map.1 he
    have := h.ok a ha
    exact ⟨by simp only; omega, hx a ha⟩)
  rw [if_neg (by omega)]

/-- The number of node i. -/
def val (x : List Int) (i : Int) : Int := x.getD i.toNat 0
def fitA (x : List Int) (a : Arc) : Bool := decide (val x a.1 < val x a.2.1)
def fitB (x : List Int) (L : List Arc) : Bool := L.all (fitA x)
def costA (x : List Int) (a : Arc) : Int := a.2.2 * (val x a.2.1 - val x a.1)
def costSum (x : List Int) (L : List Arc) : Int := (L.map (costA x)).sum
def far (v : Int) : Bool := decide (v < -1000000) || decide (1000000 < v)
def coordB (n : Int) (x : List Int) : Bool := decide ((x.length : Int) = n) && !x.any far
def costErr (n : Int) (L : List Arc) (x : List Int) : Int := if ordErr n L = 0 then (if coordB n x then (if fitB x L then 0 else 15) else 2) else ordErr n L
def costVal (n : Int) (L : List Arc) (x : List Int) : Int := if costErr n L x = 0 then costSum x L else 0
theorem costSum_snoc (x : List Int) (L : List Arc) (k : Nat) (h : k < L.length) : costSum x (L.take (k + 1)) = costSum x (L.take k) + costA x L[k] := by
  unfold costSum
  rw [List.take_succ_eq_append_getElem h, List.map_append, List.sum_append]
  simp
theorem fit_snoc (x : List Int) (L : List Arc) (k : Nat) (h : k < L.length) : fitB x (L.take (k + 1)) = (fitB x (L.take k) && fitA x L[k]) := by
  unfold fitB
  rw [List.take_succ_eq_append_getElem h, List.all_append]
  simp
theorem fit_not (x : List Int) (L : List Arc) (k : Nat) (h : k < L.length) (hf : fitA x L[k] = false) : fitB x L = false := by
  unfold fitB
  rw [List.all_eq_false]
  exact ⟨L[k], List.getElem_mem h, by simp [hf]⟩
theorem val_near {n : Int} {x : List Int} (h : coordB n x = true) (i : Int) (h0 : 0 ≤ i) (h1 : i < n) : -1000000 ≤ val x i ∧ val x i ≤ 1000000 ∧ i.toNat < x.length := by
  unfold coordB at h
  simp only [Bool.and_eq_true, decide_eq_true_eq, Bool.not_eq_true', List.any_eq_false] at h
  have hl : i.toNat < x.length := by omega
  have := h.2 x[i.toNat] (List.getElem_mem hl)
  simp only [far, Bool.or_eq_true, decide_eq_true_eq, not_or] at this
  have e : val x i = x[i.toNat] := by simp [val, List.getD_eq_getElem?_getD, hl]
  rw [e]
  omega
theorem mul_near {z d : Int} (h0 : 0 ≤ z) (h1 : z ≤ 1000000) (d0 : 0 ≤ d) (d1 : d ≤ 2000000) : 0 ≤ z * d ∧ z * d ≤ 2000000000000 := by
  refine ⟨Int.mul_nonneg h0 d0, ?_⟩
  have := Int.mul_le_mul h1 d1 d0 (by omega)
  omega
end Go.Proofs.YtappfojjjegnpaaGreatDoor.DagM

namespace Go.Proofs.YtappfojjjegnpaaGreatDoor.DagM
open Go.Lib

theorem same_len {α : Type} {l1 l2 : List α} [BEq α] [LawfulBEq α] (h1 : l1.Nodup) (h2 : l2.Nodup) (h : ∀ a, a ∈ l1 ↔ a ∈ l2) : l1.length = l2.length :=
  Nat.le_antisymm (h1.length_le_of_subset (fun a ha => (h a).1 ha)) (h2.length_le_of_subset (fun a ha => (h a).2 ha))

section
variable {z : List Int}
theorem keeps_iff (i : Nat) (hi : i < z.length) : keeps z.toArray i = true ↔ i = 0 ∨ z[i] ≠ z[i - 1]'(by omega) := by
  unfold keeps
  simp [getElem!_pos, hi, show i - 1 < z.length by omega]
theorem mem_compact {a : Int} : a ∈ compact z ↔ a ∈ z := by
  unfold compact compactUpTo
  simp only [List.mem_map, List.mem_filter, List.mem_range]
  constructor
  · rintro ⟨i, ⟨hi, _⟩, rfl⟩
    simp [getElem!_pos, hi]
  · intro ha
    have : ∀ k (hk : k < z.length), z[k] = a → ∃ i, (i < z.length ∧ keeps z.toArray i = true) ∧ z.toArray[i]! = a := by
      intro k
      induction k with
      | zero => intro hk e; exact ⟨0, ⟨hk, (keeps_iff 0 hk).2 (Or.inl rfl)⟩, by simp [getElem!_pos, hk, e]⟩
      | succ k ih =>
        intro hk e
        by_cases h : z[k] = a
        · exact ih (by omega) h
        · exact ⟨k + 1, ⟨hk, (keeps_iff (k + 1) hk).2 (Or.inr (by simp only [Nat.add_sub_cancel]; rw [e]; exact fun e2 => h e2.symm))⟩, by simp [getElem!_pos, hk, e]⟩
    obtain ⟨k, hk, e⟩ := List.getElem_of_mem ha
    exact this k hk e
theorem compact_lt (h : z.Pairwise (· ≤ ·)) : (compact z).Pairwise (· < ·) := by
  unfold compact compactUpTo
  rw [List.pairwise_map]
  have hr : ((List.range z.length).filter (keeps z.toArray)).Pairwise (· < ·) := List.Pairwise.sublist List.filter_sublist List.pairwise_lt_range
  refine hr.imp_of_mem fun {i j} hi hj hij => ?_
  obtain ⟨hi1, hi2⟩ := List.mem_filter.1 hi
  obtain ⟨hj1, hj2⟩ := List.mem_filter.1 hj
  simp only [List.mem_range] at hi1 hj1
  have hp := List.pairwise_iff_getElem.1 h
  have hk := (keeps_iff j hj1).1 hj2
  simp only [List.getElem!_toArray, getElem!_pos, hi1, hj1]
  have h1 : z[i] ≤ z[j - 1]'(by omega) := by
    by_cases e : i = j - 1
    · subst e; omega
    · exact hp i (j - 1) hi1 (by omega) (by omega)
  have h2 := hp (j - 1) j (by omega) hj1 (by omega)
  rcases hk with h0 | h0
  · omega
  · omega
end

def sorted (x : List Int) : List Int := x.mergeSort fun a b => decide (a ≤ b)
theorem sorted_le (x : List Int) : (sorted x).Pairwise (· ≤ ·) := by
  have h := List.pairwise_mergeSort (le := fun (x y : Int) => decide (x ≤ y)) (fun a b c h1 h2 => by simp only [decide_eq_true_eq] at *; omega) (fun a b => by simp only [Bool.or_eq_true, decide_eq_true_eq]; omega) x
  exact h.imp fun {a b} h => by simpa using h
theorem mem_sorted {x : List Int} {a : Int} : a ∈ sorted x ↔ a ∈ x := (List.mergeSort_perm _ _).mem_iff
def unlike (x : List Int) : List Int := compact (sorted x)
theorem unlike_lt (x : List Int) : (unlike x).Pairwise (· < ·) := compact_lt (sorted_le x)
theorem mem_unlike {x : List Int} {a : Int} : a ∈ unlike x ↔ a ∈ x := mem_compact.trans mem_sorted
theorem unlike_nd (x : List Int) : (unlike x).Nodup := by
  rw [List.nodup_iff_pairwise_ne]
  exact (unlike_lt x).imp fun h e => by omega
theorem unlike_len (x : List Int) : (unlike x).length ≤ x.length := by
  have h := (unlike_nd x).length_le_of_subset (l₂ := x) (fun a ha => mem_unlike.1 ha)
  exact h
/-- How many unlike lesser ones there are. -/
def rk (x : List Int) (v : Int) : Nat := (unlike x).countP (· < v)
theorem rk_of {x l : List Int} {v : Int} (h : l.Nodup) (hm : ∀ y, y ∈ l ↔ y ∈ x ∧ y < v) : l.length = rk x v := by
  unfold rk
  rw [List.countP_eq_length_filter]
  refine same_len h (List.Nodup.sublist List.filter_sublist (unlike_nd x)) fun a => ?_
  rw [hm, List.mem_filter, mem_unlike]
  simp
theorem rk_le (x : List Int) (v : Int) : rk x v ≤ x.length := Nat.le_trans List.countP_le_length (unlike_len x)
def rkL (x : List Int) : List Nat := x.map (rk x)
theorem count_split (l : List Int) {a b : Int} (h : a ≤ b) : l.countP (· < b) = l.countP (· < a) + l.countP (fun y => decide (a ≤ y) && decide (y < b)) := by
  induction l with
  | nil => rfl
  | cons y l ih =>
    simp only [List.countP_cons, ih]
    by_cases h1 : y < a
    · have h2 : y < b := by omega
      have h3 : ¬ a ≤ y := by omega
      simp [h1, h2, h3]; omega
    · by_cases h2 : y < b
      · have h3 : a ≤ y := by omega
        simp [h1, h2, h3]; omega
      · simp [h1, h2]
theorem rk_lt {x : List Int} {a b : Int} (ha : a ∈ x) (h : a < b) : rk x a < rk x b := by
  unfold rk
  rw [count_split (unlike x) (Int.le_of_lt h)]
  have : 0 < (unlike x).countP (fun y => decide (a ≤ y) && decide (y < b)) := List.countP_pos_iff.2 ⟨a, mem_unlike.2 ha, by simp [h]⟩
  omega
theorem rk_near {x : List Int} {a b : Int} (h : a ≤ b) : (rk x b : Int) - rk x a ≤ b - a := by
  unfold rk
  rw [count_split (unlike x) h]
  have hp : (unlike x).countP (fun y => decide (a ≤ y) && decide (y < b)) ≤ (b - a).toNat := by
    rw [List.countP_eq_length_filter]
    have hnd : (((unlike x).filter fun y => decide (a ≤ y) && decide (y < b)).map fun y => (y - a).toNat).Nodup := by
      rw [List.nodup_iff_pairwise_ne, List.pairwise_map]
      refine (List.Pairwise.sublist List.filter_sublist (unlike_lt x)).imp_of_mem fun {i j} hi hj hij => ?_
      have h1 := (List.mem_filter.1 hi).2
      have h2 := (List.mem_filter.1 hj).2
      simp only [Bool.and_eq_true, decide_eq_true_eq] at h1 h2
      omega
    have := pigeon (n := (b - a).toNat) hnd (fun v hv => by
      obtain ⟨y, hy, rfl⟩ := List.mem_map.1 hv
      have h1 := (List.mem_filter.1 hy).2
      simp only [Bool.and_eq_true, decide_eq_true_eq] at h1
      omega)
    simpa using this
  omega
def castI (l : List Nat) : List Int := l.map fun (v : Nat) => (v : Int)
theorem val_rk {x : List Int} {i : Int} (h : i.toNat < x.length) : val (castI (rkL x)) i = rk x (val x i) ∧ val x i ∈ x := by
  unfold val castI rkL
  simp [List.getD_eq_getElem?_getD, h]
/-- Ranks of coordinates that fit fit, and cost no more. -/
theorem ranks_fit {n : Int} {L : List Arc} {x : List Int} (hM : May n L) (hl : (x.length : Int) = n) (hf : fitB x L = true) : fitB (castI (rkL x)) L = true ∧ costSum (castI (rkL x)) L ≤ costSum x L ∧ 0 ≤ costSum (castI (rkL x)) L := by
  have hok := hM.ok
  clear hM
  induction L with
  | nil => exact ⟨rfl, Int.le_refl _, Int.le_refl _⟩
  | cons a L ih =>
    simp only [fitB, List.all_cons, Bool.and_eq_true] at hf
    obtain ⟨h1, h2, h3⟩ := ih hf.2 (fun b hb => hok b (by simp [hb]))
    have ha := hok a (by simp)
    obtain ⟨e1, m1⟩ := val_rk (x := x) (i := a.1) (by omega)
    obtain ⟨e2, m2⟩ := val_rk (x := x) (i := a.2.1) (by omega)
    have hlt : val x a.1 < val x a.2.1 := by simpa [fitA] using hf.1
    have r1 := rk_lt m1 hlt
    have r2 := rk_near (x := x) (Int.le_of_lt hlt)
    simp only [fitB] at h1
    refine ⟨by simp only [fitB, List.all_cons, Bool.and_eq_true]; exact ⟨by simp only [fitA, decide_eq_true_eq]; rw [e1, e2]; omega, h1⟩, ?_, ?_⟩
    · simp only [costSum, List.map_cons, List.sum_cons] at h2 ⊢
      have : costA (castI (rkL x)) a ≤ costA x a := by
        unfold costA
        rw [e1, e2]
        exact Int.mul_le_mul_of_nonneg_left r2 ha.2.2.2.2.1
      omega
    · simp only [costSum, List.map_cons, List.sum_cons] at h3 ⊢
      have : 0 ≤ costA (castI (rkL x)) a := by
        unfold costA
        rw [e1, e2]
        exact Int.mul_nonneg ha.2.2.2.2.1 (by omega)
      omega
end Go.Proofs.YtappfojjjegnpaaGreatDoor.DagM

namespace Go.Proofs.YtappfojjjegnpaaGreatDoor.DagM

/-- d is of each node how many arcs the longest way to it has. -/
structure Lay (E : EndL) (d : Nat → Nat) : Prop where
  up : ∀ e ∈ E, d e.1 + 1 ≤ d e.2
  ti : ∀ w, d w = 0 ∨ ∃ e ∈ E, e.2 = w ∧ d w = d e.1 + 1

variable {E : EndL} {d d' x : Nat → Nat} {Q B : List Nat} {v : Nat}
theorem Lay.least (h : Lay E d) {N : Nat} {y : Nat → Int} (hE : ∀ e ∈ E, e.1 < N) (h0 : ∀ u, u < N → 0 ≤ y u) (hf : ∀ e ∈ E, y e.1 < y e.2) : ∀ u, u < N → (d u : Int) ≤ y u := by
  have go : ∀ (k u : Nat), d u ≤ k → u < N → (d u : Int) ≤ y u := by
    intro k
    induction k with
    | zero => intro u hk hu; have := h0 u hu; omega
    | succ k ih =>
      intro u hk hu
      rcases h.ti u with e | ⟨e, he, rfl, hd⟩
      · have := h0 u hu; omega
      · have h1 := ih e.1 (by omega) (hE e he)
        have h2 := hf e he
        omega
  exact fun u hu => go (d u) u (Nat.le_refl _) hu
theorem Lay.le (h : Lay E d) (h' : Lay E d') : ∀ u, d u ≤ d' u := by
  have go : ∀ (k u : Nat), d u ≤ k → d u ≤ d' u := by
    intro k
    induction k with
    | zero => intro u hk; omega
    | succ k ih =>
      intro u hk
      rcases h.ti u with e | ⟨e, he, rfl, hd⟩
      · omega
      · have h1 := ih e.1 (by omega)
        have h2 := h'.up e he
        omega
  exact fun u => go (d u) u (Nat.le_refl _)
theorem Lay.uniq (h : Lay E d) (h' : Lay E d') : d = d' := funext fun u => Nat.le_antisymm (h.le h' u) (h'.le h u)
theorem Lay.same {E' : EndL} (h : Lay E d) (he : ∀ e, e ∈ E ↔ e ∈ E') : Lay E' d :=
  ⟨fun e h1 => h.up e ((he e).2 h1), fun w => (h.ti w).imp id fun ⟨e, h1, h2⟩ => ⟨e, (he e).1 h1, h2⟩⟩
/-- All numbers up to that of a node are there. -/
theorem Lay.all (h : Lay E d) {N : Nat} (hE : ∀ e ∈ E, e.1 < N) {u : Nat} (hu : u < N) : ∀ k, k ≤ d u → ∃ v, v < N ∧ d v = k := by
  have go : ∀ (m u : Nat), u < N → ∀ k, k + m = d u → ∃ v, v < N ∧ d v = k := by
    intro m
    induction m with
    | zero => intro u hu k hk; exact ⟨u, hu, by omega⟩
    | succ m ih =>
      intro u hu k hk
      rcases h.ti u with e | ⟨e, he, rfl, hd⟩
      · omega
      · exact ih e.1 (hE e he) k (by omega)
  exact fun k hk => go (d u - k) u hu k (by omega)
theorem outs_of_mem {w : Nat} (h : (v, w) ∈ E) : w ∈ outs E v := by
  unfold outs
  exact List.mem_map.2 ⟨(v, w), List.mem_filter.2 ⟨h, by simp⟩, rfl⟩

/-- Where the code stands: the nodes of Q are done. -/
structure LaySt (E : EndL) (Q : List Nat) (x : Nat → Nat) : Prop where
  up : ∀ e ∈ E, e.1 ∈ Q → x e.1 + 1 ≤ x e.2
  ti : ∀ w, x w = 0 ∨ ∃ e ∈ E, e.1 ∈ Q ∧ e.2 = w ∧ x w = x e.1 + 1
  bd : ∀ w, x w ≤ Q.length
/-- Q is done, and of v all that is in B. -/
structure LayIn (E : EndL) (Q : List Nat) (v : Nat) (B : List Nat) (x : Nat → Nat) : Prop where
  up : ∀ e ∈ E, e.1 ∈ Q → x e.1 + 1 ≤ x e.2
  cur : ∀ w ∈ B, x v + 1 ≤ x w
  ti : ∀ w, x w = 0 ∨ ∃ e ∈ E, (e.1 ∈ Q ∨ e.1 = v) ∧ e.2 = w ∧ x w = x e.1 + 1
  bv : x v ≤ Q.length
  bd : ∀ w, x w ≤ Q.length + 1
theorem laySt_nil : LaySt E [] (fun _ => 0) := ⟨fun e _ h => by simp at h, fun _ => Or.inl rfl, fun _ => Nat.le_refl _⟩
theorem LaySt.begin (h : LaySt E Q x) (v : Nat) : LayIn E Q v [] x :=
  ⟨h.up, fun w hw => by simp at hw, fun w => (h.ti w).imp id fun ⟨e, h1, h2, h3⟩ => ⟨e, h1, Or.inl h2, h3⟩, h.bd v, fun w => Nat.le_succ_of_le (h.bd w)⟩
theorem LayIn.step (h : LayIn E Q v B x) {w : Nat} (he : (v, w) ∈ E) (hw : w ∉ Q ++ [v]) : LayIn E Q v (B ++ [w]) (fun u => if u = w then max (x w) (x v + 1) else x u) := by
  have hv : v ≠ w := fun e => hw (by subst e; simp)
  have hq : ∀ u ∈ Q, u ≠ w := fun u hu e => hw (by subst e; simp [hu])
  have mono : ∀ u, x u ≤ (if u = w then max (x w) (x v + 1) else x u) := fun u => by
    by_cases e : u = w
    · subst e; simp; omega
    · simp [e]
  refine ⟨fun e h1 h2 => ?_, fun u hu => ?_, fun u => ?_, ?_, fun u => ?_⟩
  · have := h.up e h1 h2
    have := mono e.2
    rw [if_neg (hq _ h2)]
    omega
  · rw [if_neg hv]
    rcases List.mem_append.1 hu with h1 | h1
    · have := h.cur u h1
      have := mono u
      omega
    · obtain rfl := List.mem_singleton.1 h1
      rw [if_pos rfl]
      omega
  · by_cases e : u = w
    · subst e
      rw [if_pos rfl]
      by_cases hc : x u < x v + 1
      · exact Or.inr ⟨(v, u), he, Or.inr rfl, rfl, by simp only [if_neg hv]; omega⟩
      · rcases h.ti u with h0 | ⟨e, h1, h2, h3, h4⟩
        · omega
        · refine Or.inr ⟨e, h1, h2, h3, ?_⟩
          have : e.1 ≠ u := by
            rcases h2 with h2 | h2
            · exact hq _ h2
            · rw [h2]; exact hv
          rw [if_neg this]
          omega
    · rw [if_neg e]
      rcases h.ti u with h0 | ⟨e', h1, h2, h3, h4⟩
      · exact Or.inl h0
      · refine Or.inr ⟨e', h1, h2, h3, ?_⟩
        have : e'.1 ≠ w := by
          rcases h2 with h2 | h2
          · exact hq _ h2
          · rw [h2]; exact hv
        rw [if_neg this]
        exact h4
  · rw [if_neg hv]; exact h.bv
  · have := h.bd u
    have := h.bv
    by_cases e : u = w
    · subst e; simp; omega
    · simp [e]; omega
theorem LayIn.done (h : LayIn E Q v (outs E v) x) : LaySt E (Q ++ [v]) x := by
  refine ⟨fun e h1 h2 => ?_, fun w => (h.ti w).imp id fun ⟨e, h1, h2, h3⟩ => ⟨e, h1, by simpa using h2, h3⟩, fun w => by simpa using h.bd w⟩
  rcases List.mem_append.1 h2 with h2 | h2
  · exact h.up e h1 h2
  · have e1 : e.1 = v := by simpa using h2
    rw [e1]
    exact h.cur e.2 (outs_of_mem (by rw [← e1]; exact h1))
theorem LaySt.lay (h : LaySt E Q x) (hq : ∀ e ∈ E, e.1 ∈ Q) : Lay E x :=
  ⟨fun e he => h.up e he (hq e he), fun w => (h.ti w).imp id fun ⟨e, h1, _, h3⟩ => ⟨e, h1, h3⟩⟩

/-- Where the document's answer stands: r rounds are done, and of the next one the arcs K. -/
structure LayRef (d x : Nat → Nat) (r : Nat) (K : EndL) : Prop where
  le : ∀ w, x w ≤ d w
  eq : ∀ w, d w ≤ r → x w = d w
  cur : ∀ e ∈ K, d e.1 ≤ r → d e.1 + 1 ≤ x e.2
theorem layRef_nil : LayRef d (fun _ => 0) 0 [] := ⟨fun _ => Nat.zero_le _, fun w h => by omega, fun e h => by simp at h⟩
theorem LayRef.step {K : EndL} {r a b : Nat} (hd : Lay E d) (h : LayRef d x r K) (he : (a, b) ∈ E) : LayRef d (fun u => if u = b then (if x b ≤ x a then x a + 1 else x b) else x u) r (K ++ [(a, b)]) := by
  have hu := hd.up _ he
  simp only at hu
  have la := h.le a
  have lb := h.le b
  have mono : ∀ u, x u ≤ (if u = b then (if x b ≤ x a then x a + 1 else x b) else x u) := fun u => by
    by_cases e : u = b
    · subst e; simp only [if_pos]; split <;> omega
    · simp [e]
  refine ⟨fun w => ?_, fun w hw => ?_, fun e h1 h2 => ?_⟩
  · by_cases e : w = b
    · subst e; simp only [if_pos]; split <;> omega
    · rw [if_neg e]; exact h.le w
  · have := h.eq w hw
    by_cases e : w = b
    · subst e; simp only [if_pos]; split <;> omega
    · rw [if_neg e]; exact this
  · rcases List.mem_append.1 h1 with h1 | h1
    · have := h.cur e h1 h2
      have := mono e.2
      omega
    · obtain rfl := List.mem_singleton.1 h1
      simp only at h2 ⊢
      have := h.eq a h2
      simp only [if_true]
      split <;> omega
theorem LayRef.round {r : Nat} (hd : Lay E d) (h : LayRef d x r E) : LayRef d x (r + 1) [] := by
  refine ⟨h.le, fun w hw => ?_, fun e he => by simp at he⟩
  by_cases e : d w ≤ r
  · exact h.eq w e
  · rcases hd.ti w with h0 | ⟨e', h1, rfl, h3⟩
    · omega
    · have := h.cur e' h1 (by omega)
      have := h.le e'.2
      omega
theorem LayRef.fin {K : EndL} {r : Nat} (h : LayRef d x r K) (hr : ∀ w, d w ≤ r) : x = d := funext fun w => h.eq w (hr w)
end Go.Proofs.YtappfojjjegnpaaGreatDoor.DagM

namespace Go.Proofs.YtappfojjjegnpaaGreatDoor.DagM

/-- What flows from node v, less what flows to it. -/
def netP (v : Int) (p : Arc × Int) : Int := (if p.1.1 = v then p.2 else 0) - (if p.1.2.1 = v then p.2 else 0)
def netF (L : List Arc) (f : List Int) (v : Int) : Int := ((L.zip f).map (netP v)).sum
def wts (L : List Arc) : List Int := L.map fun a => a.2.2
def supF (L : List Arc) (v : Int) : Int := netF L (wts L) v
def dotF (L : List Arc) (f y : List Int) : Int := ((L.zip f).map fun p => p.2 * (val y p.1.2.1 - val y p.1.1)).sum
def totF (n : Nat) (L : List Arc) : Int := ((List.range n).map fun (v : Nat) => max 0 (supF L v)).sum
/-- A right flow. -/
structure RightF (n : Nat) (L : List Arc) (f : List Int) : Prop where
  len : f.length = L.length
  nn : ∀ y ∈ f, 0 ≤ y
  net : ∀ v : Nat, v < n → netF L f v = supF L v
/-- It flows along tight arcs alone. -/
def TightF (L : List Arc) (f x : List Int) : Prop := ∀ p ∈ L.zip f, 0 < p.2 → val x p.1.2.1 - val x p.1.1 = 1

variable {n : Nat} {L : List Arc} {f g x y : List Int}
theorem netF_cons (a : Arc) (c v : Int) (L : List Arc) (f : List Int) : netF (a :: L) (c :: f) v = netP v (a, c) + netF L f v := by simp [netF]
theorem sum_ind (y : List Int) (c : Int) : ∀ (n : Nat) (i : Int), 0 ≤ i → i < n → ((List.range n).map fun (v : Nat) => val y v * (if i = (v : Int) then c else 0)).sum = val y i * c := by
  intro n
  induction n with
  | zero => intro i h0 h1; omega
  | succ n ih =>
    intro i h0 h1
    rw [List.range_succ, List.map_append, List.sum_append]
    by_cases e : i = (n : Int)
    · subst e
      have z : ((List.range n).map fun (v : Nat) => val y v * (if (n : Int) = (v : Int) then c else 0)).sum = 0 := by
        have : ∀ l : List Nat, (∀ v ∈ l, v < n) → (l.map fun (v : Nat) => val y v * (if (n : Int) = (v : Int) then c else 0)).sum = 0 := by
          intro l
          induction l with
          | nil => intro _; rfl
          | cons a l ih =>
            intro h
            have ha := h a (by simp)
            rw [List.map_cons, List.sum_cons, ih (fun v hv => h v (by simp [hv])), if_neg (by omega)]
            simp
        exact this _ (fun v hv => by simpa using hv)
      rw [z]
      simp
    · rw [ih i h0 (by omega)]
      simp [e]
theorem sum_split (A B : Nat → Int) (l : List Nat) : (l.map fun v => A v + B v).sum = (l.map A).sum + (l.map B).sum := by
  induction l with
  | nil => rfl
  | cons a l ih => simp only [List.map_cons, List.sum_cons, ih]; omega
theorem sum_neg (A : Nat → Int) (l : List Nat) : (l.map fun v => - A v).sum = - (l.map A).sum := by
  induction l with
  | nil => rfl
  | cons a l ih => simp only [List.map_cons, List.sum_cons, ih]; omega
theorem sum_zero (l : List Nat) : (l.map fun _ => (0 : Int)).sum = 0 := by
  induction l with
  | nil => rfl
  | cons a l ih => simp [ih]
/-- What flows, times the lengths, is what the nodes give, times their numbers. -/
theorem dot_net (hE : ∀ a ∈ L, 0 ≤ a.1 ∧ a.1 < n ∧ 0 ≤ a.2.1 ∧ a.2.1 < n) : ∀ f : List Int, dotF L f y = - ((List.range n).map fun (v : Nat) => val y v * netF L f v).sum := by
  induction L with
  | nil =>
    intro f
    have : ((List.range n).map fun (v : Nat) => val y v * netF [] f v) = (List.range n).map fun _ => (0 : Int) := List.map_congr_left (fun v _ => by simp [netF])
    rw [this, sum_zero]
    rfl
  | cons a L ih =>
    intro f
    cases f with
    | nil =>
      have : ((List.range n).map fun (v : Nat) => val y v * netF (a :: L) [] v) = (List.range n).map fun _ => (0 : Int) := List.map_congr_left (fun v _ => by simp [netF])
      rw [this, sum_zero]
      rfl
    | cons c f =>
      have ha := hE a (by simp)
      have h1 := ih (fun b hb => hE b (by simp [hb])) f
      have e : ((List.range n).map fun (v : Nat) => val y v * netF (a :: L) (c :: f) v) = (List.range n).map fun (v : Nat) => (val y v * (if a.1 = (v : Int) then c else 0) + - (val y v * (if a.2.1 = (v : Int) then c else 0))) + val y v * netF L f v := by
        refine List.map_congr_left fun v _ => ?_
        rw [netF_cons]
        unfold netP
        simp only
        rw [Int.mul_add, Int.mul_sub]
        omega
      rw [e, sum_split, sum_split, sum_neg, sum_ind y c n a.1 ha.1 ha.2.1, sum_ind y c n a.2.1 ha.2.2.1 ha.2.2.2]
      unfold dotF at h1 ⊢
      rw [List.zip_cons_cons, List.map_cons, List.sum_cons, h1]
      simp only
      rw [Int.mul_sub, Int.mul_comm c, Int.mul_comm c]
      omega
theorem dot_wts (y : List Int) (L : List Arc) : dotF L (wts L) y = costSum y L := by
  unfold dotF wts costSum
  induction L with
  | nil => rfl
  | cons a L ih =>
    rw [List.map_cons, List.zip_cons_cons, List.map_cons, List.sum_cons, ih, List.map_cons, List.sum_cons]
    rfl
theorem sum_le_dot (hf : fitB y L = true) : ∀ f : List Int, (∀ c ∈ f, 0 ≤ c) → f.length = L.length → f.sum ≤ dotF L f y := by
  unfold dotF
  induction L with
  | nil => intro f _ hl; obtain rfl : f = [] := List.eq_nil_of_length_eq_zero (by simpa using hl); simp
  | cons a L ih =>
    intro f h0 hl
    cases f with
    | nil => simp at hl
    | cons c f =>
      simp only [fitB, List.all_cons, Bool.and_eq_true] at hf
      have h1 := ih (by unfold fitB; exact hf.2) f (fun d hd => h0 d (by simp [hd])) (by simpa using hl)
      have hc := h0 c (by simp)
      have hlt : val y a.1 < val y a.2.1 := by simpa [fitA] using hf.1
      rw [List.sum_cons, List.zip_cons_cons, List.map_cons, List.sum_cons]
      simp only
      have h2 : c * 1 ≤ c * (val y a.2.1 - val y a.1) := Int.mul_le_mul_of_nonneg_left (by omega) hc
      omega
theorem dot_tight : ∀ f : List Int, (∀ c ∈ f, 0 ≤ c) → f.length = L.length → TightF L f y → dotF L f y = f.sum := by
  unfold dotF TightF
  induction L with
  | nil => intro f _ hl _; obtain rfl : f = [] := List.eq_nil_of_length_eq_zero (by simpa using hl); simp
  | cons a L ih =>
    intro f h0 hl ht
    cases f with
    | nil => simp at hl
    | cons c f =>
      rw [List.zip_cons_cons] at ht ⊢
      have h1 := ih f (fun d hd => h0 d (by simp [hd])) (by simpa using hl) (fun p hp => ht p (by simp [hp]))
      have hc := h0 c (by simp)
      rw [List.sum_cons, List.map_cons, List.sum_cons, h1]
      simp only
      by_cases e : c = 0
      · subst e; simp
      · have := ht (a, c) (by simp) (by simp only; omega)
        simp only at this
        rw [this]; omega
theorem net_same (hE : ∀ a ∈ L, 0 ≤ a.1 ∧ a.1 < n ∧ 0 ≤ a.2.1 ∧ a.2.1 < n) (h : RightF n L f) : dotF L f y = costSum y L := by
  rw [← dot_wts, dot_net hE f, dot_net hE (wts L)]
  congr 2
  refine List.map_congr_left fun v hv => ?_
  rw [h.net v (by simpa using hv)]
  rfl
/-- No right flow is more than what coordinates that fit cost. -/
theorem weak (hE : ∀ a ∈ L, 0 ≤ a.1 ∧ a.1 < n ∧ 0 ≤ a.2.1 ∧ a.2.1 < n) (h : RightF n L f) (hf : fitB y L = true) : f.sum ≤ costSum y L := by
  rw [← net_same hE h]
  exact sum_le_dot hf f h.nn h.len




theorem netF_take (L : List Arc) (f : List Int) (k : Nat) (h : k < L.length) (h2 : k < f.length) (v : Int) : netF (L.take (k + 1)) (f.take (k + 1)) v = netF (L.take k) (f.take k) v + netP v (L[k], f[k]) := by
  have e : (L.take (k + 1)).zip (f.take (k + 1)) = (L.take k).zip (f.take k) ++ [(L[k], f[k])] := by
    rw [List.take_succ_eq_append_getElem h, List.take_succ_eq_append_getElem h2, List.zip_append (by simp; omega)]
    simp
  unfold netF
  rw [e, List.map_append, List.sum_append]
  simp
theorem supF_take (L : List Arc) (k : Nat) (h : k < L.length) (v : Int) : supF (L.take (k + 1)) v = supF (L.take k) v + netP v (L[k], L[k].2.2) := by
  have e : ∀ m, wts (L.take m) = (wts L).take m := fun m => by unfold wts; rw [List.map_take]
  unfold supF
  rw [e, e, netF_take L (wts L) k h (by simpa [wts] using h)]
  simp [wts]
/-- How great what flows from a node can be. -/
theorem netF_near (v : Int) : ∀ (L : List Arc) (f : List Int), (∀ c ∈ f, 0 ≤ c) → - f.sum ≤ netF L f v ∧ netF L f v ≤ f.sum := by
  intro L
  induction L with
  | nil => intro f h0; have : 0 ≤ f.sum := by
             induction f with
             | nil => simp
             | cons c f ih => have := h0 c (by simp); have := ih (fun d hd => h0 d (by simp [hd])); rw [List.sum_cons]; omega
           simp [netF]; omega
  | cons a L ih =>
    intro f h0
    cases f with
    | nil => simp [netF]
    | cons c f =>
      have hc := h0 c (by simp)
      have h1 := ih f (fun d hd => h0 d (by simp [hd]))
      rw [netF_cons, List.sum_cons]
      unfold netP
      simp only
      split <;> split <;> omega
theorem sum_take_le (f : List Int) (h0 : ∀ c ∈ f, 0 ≤ c) (k : Nat) : 0 ≤ (f.take k).sum ∧ (f.take k).sum ≤ f.sum := by
  have nn : ∀ l : List Int, (∀ c ∈ l, 0 ≤ c) → 0 ≤ l.sum := by
    intro l
    induction l with
    | nil => intro _; simp
    | cons c l ih => intro h; have := h c (by simp); have := ih (fun d hd => h d (by simp [hd])); rw [List.sum_cons]; omega
  have e : f.sum = (f.take k).sum + (f.drop k).sum := by rw [← List.sum_append, List.take_append_drop]
  have h1 := nn (f.take k) (fun c hc => h0 c (List.mem_of_mem_take hc))
  have h2 := nn (f.drop k) (fun c hc => h0 c (List.mem_of_mem_drop hc))
  omega
theorem wts_near {n : Int} (h : May n L) : (∀ c ∈ wts L, 0 ≤ c) ∧ (wts L).sum ≤ 1000000 * (L.length : Int) := by
  refine ⟨fun c hc => by obtain ⟨a, ha, rfl⟩ := List.mem_map.1 hc; have := h.ok a ha; omega, ?_⟩
  have : ∀ K : List Arc, (∀ a ∈ K, a.2.2 ≤ 1000000) → (wts K).sum ≤ 1000000 * (K.length : Int) := by
    intro K
    induction K with
    | nil => intro _; simp [wts]
    | cons a K ih =>
      intro hk
      have := hk a (by simp)
      have := ih (fun b hb => hk b (by simp [hb]))
      simp only [wts, List.map_cons, List.sum_cons, List.length_cons] at this ⊢
      push_cast
      omega
  exact this L (fun a ha => by have := h.ok a ha; omega)
theorem sup_near {n : Int} (h : May n L) (k : Nat) (v : Int) : -16384000000 ≤ supF (L.take k) v ∧ supF (L.take k) v ≤ 16384000000 := by
  have hw := wts_near h
  have e : wts (L.take k) = (wts L).take k := by unfold wts; rw [List.map_take]
  have h1 := sum_take_le (wts L) hw.1 k
  have h2 := netF_near v (L.take k) (wts (L.take k)) (fun c hc => by rw [e] at hc; exact hw.1 c (List.mem_of_mem_take hc))
  have := h.len
  rw [e] at h2
  unfold supF
  rw [e]
  omega
section
variable {ways : Int}
theorem may_ends (h : May n L) : ∀ a ∈ L, 0 ≤ a.1 ∧ a.1 < n ∧ 0 ≤ a.2.1 ∧ a.2.1 < n := fun a ha => by have := h.ok a ha; omega


theorem cost_near (hM : May n L) (hx : ∀ i : Int, 0 ≤ i → i < n → 0 ≤ val x i ∧ val x i ≤ n) : -4096000000 * (L.length : Int) ≤ costSum x L ∧ costSum x L ≤ 4096000000 * (L.length : Int) := by
  have hn := hM.n1
  have hok := hM.ok
  clear hM
  induction L with
  | nil => simp [costSum]
  | cons a L ih =>
    have h1 := ih (fun b hb => hok b (by simp [hb]))
    have ha := hok a (by simp)
    have v1 := hx a.1 (by omega) (by omega)
    have v2 := hx a.2.1 (by omega) (by omega)
    have c1 : costA x a ≤ 1000000 * 4096 := by
      unfold costA
      by_cases hd : 0 ≤ val x a.2.1 - val x a.1
      · exact Int.mul_le_mul (by omega) (by omega) hd (by omega)
      · have : a.2.2 * (val x a.2.1 - val x a.1) ≤ 0 := Int.mul_nonpos_of_nonneg_of_nonpos (by omega) (by omega)
        omega
    have c2 : -(1000000 * 4096) ≤ costA x a := by
      unfold costA
      have h2 : a.2.2 * (-(val x a.2.1 - val x a.1)) ≤ 1000000 * 4096 := by
        by_cases hd : 0 ≤ -(val x a.2.1 - val x a.1)
        · exact Int.mul_le_mul (by omega) (by omega) hd (by omega)
        · have : a.2.2 * (-(val x a.2.1 - val x a.1)) ≤ 0 := Int.mul_nonpos_of_nonneg_of_nonpos (by omega) (by omega)
          omega
      rw [Int.mul_neg] at h2
      omega
    simp only [costSum, List.map_cons, List.sum_cons, List.length_cons] at h1 ⊢
    push_cast
    omega



end
end Go.Proofs.YtappfojjjegnpaaGreatDoor.DagM

namespace Go.Proofs.YtappfojjjegnpaaGreatDoor.DagM

/-- A step: its arc, from where, to where; 1 if it goes back. -/
abbrev Stp := Nat × Nat × Nat × Nat
def stpA (v i : Nat) (e : Nat × Nat) : List Stp := (if e.1 = v then [(i, e.1, e.2, 0)] else []) ++ (if e.2 = v then [(i, e.2, e.1, 1)] else [])
def stpsK (E : EndL) (k v : Nat) : List Stp := (List.range k).flatMap fun i => stpA v i (E.getD i (0, 0))
def stps (E : EndL) (v : Nat) : List Stp := stpsK E E.length v
theorem stpsK_succ (E : EndL) (k v : Nat) : stpsK E (k + 1) v = stpsK E k v ++ stpA v k (E.getD k (0, 0)) := by
  unfold stpsK
  rw [List.range_succ, List.flatMap_append]
  simp
theorem mem_stps {E : EndL} {v : Nat} {s : Stp} (h : s ∈ stps E v) : s.1 < E.length ∧ s.2.1 = v ∧ ((s.2.2.2 = 0 ∧ E.getD s.1 (0, 0) = (v, s.2.2.1)) ∨ (s.2.2.2 = 1 ∧ E.getD s.1 (0, 0) = (s.2.2.1, v))) := by
  unfold stps stpsK at h
  obtain ⟨i, hi, hs⟩ := List.mem_flatMap.1 h
  have hi' : i < E.length := by simpa using hi
  unfold stpA at hs
  generalize he : E.getD i (0, 0) = e at hs
  obtain ⟨a, b⟩ := e
  simp only [List.mem_append] at hs
  rcases hs with hs | hs
  · split at hs
    · rename_i hv
      simp at hs hv
      subst hs
      exact ⟨hi', hv, Or.inl ⟨rfl, by rw [he, hv]⟩⟩
    · simp at hs
  · split at hs
    · rename_i hv
      simp at hs hv
      subst hs
      exact ⟨hi', hv, Or.inr ⟨rfl, by rw [he, hv]⟩⟩
    · simp at hs
theorem stps_fwd {E : EndL} {i : Nat} (h : i < E.length) : (i, (E.getD i (0, 0)).1, (E.getD i (0, 0)).2, 0) ∈ stps E (E.getD i (0, 0)).1 := by
  unfold stps stpsK
  refine List.mem_flatMap.2 ⟨i, by simpa using h, ?_⟩
  unfold stpA
  simp
theorem stps_bck {E : EndL} {i : Nat} (h : i < E.length) : (i, (E.getD i (0, 0)).2, (E.getD i (0, 0)).1, 1) ∈ stps E (E.getD i (0, 0)).2 := by
  unfold stps stpsK
  refine List.mem_flatMap.2 ⟨i, by simpa using h, ?_⟩
  unfold stpA
  simp

/-- May something more flow by that step? -/
def opn (f : Nat → Int) (s : Stp) : Bool := decide (s.2.2.2 = 0) || decide (0 < f s.1)
/-- By how much its arc is too long. -/
def slk (x : Nat → Int) (s : Stp) : Int := if 0 < s.2.2.2 then 0 else x s.2.2.1 - x s.2.1 - 1
/-- Coordinates fit; what flows is not below 0, and flows along tight arcs alone. -/
structure Fits (E : EndL) (n : Nat) (x f : Nat → Int) : Prop where
  ends : ∀ i, i < E.length → (E.getD i (0, 0)).1 < n ∧ (E.getD i (0, 0)).2 < n
  fit : ∀ i, i < E.length → x (E.getD i (0, 0)).1 + 1 ≤ x (E.getD i (0, 0)).2
  nn : ∀ i, i < E.length → 0 ≤ f i
  ti : ∀ i, i < E.length → 0 < f i → x (E.getD i (0, 0)).2 = x (E.getD i (0, 0)).1 + 1
section
variable {E : EndL} {n : Nat} {x f lf : Nat → Int}
theorem Fits.step (h : Fits E n x f) {v : Nat} {s : Stp} (hs : s ∈ stps E v) : s.1 < E.length ∧ s.2.1 = v ∧ v < n ∧ s.2.2.1 < n ∧ s.2.2.2 ≤ 1 ∧ 0 ≤ slk x s ∧
    (s.2.2.2 = 0 → slk x s = x s.2.2.1 - x v - 1 ∧ E.getD s.1 (0, 0) = (v, s.2.2.1)) ∧ (s.2.2.2 = 1 → slk x s = 0 ∧ E.getD s.1 (0, 0) = (s.2.2.1, v) ∧ (opn f s = true → x s.2.2.1 = x v - 1)) := by
  obtain ⟨h1, h2, h3⟩ := mem_stps hs
  have he := h.ends s.1 h1
  have hf := h.fit s.1 h1
  have ht := h.ti s.1 h1
  rcases h3 with ⟨h3, h4⟩ | ⟨h3, h4⟩
  · rw [h4] at he hf ht
    simp only at he hf ht
    refine ⟨h1, h2, he.1, he.2, by omega, ?_, fun _ => ⟨?_, h4⟩, fun e => by omega⟩
    · simp [slk, h3, h2]; omega
    · simp [slk, h3, h2]
  · rw [h4] at he hf ht
    simp only at he hf ht
    refine ⟨h1, h2, he.2, he.1, by omega, ?_, fun e => by omega, fun _ => ⟨?_, h4, fun ho => ?_⟩⟩
    · simp [slk, h3]
    · simp [slk, h3]
    · simp [opn, h3] at ho
      have := ht ho
      omega
end

/-! Distances. -/
abbrev Dst := Int × Int
def infD : Dst := (9223372036854775807, 9223372036854775807)
def ltD (a b : Dst) : Bool := decide (a.1 < b.1) || decide (a.1 = b.1) && decide (a.2 < b.2)
def leD (a b : Dst) : Prop := a.1 < b.1 ∨ (a.1 = b.1 ∧ a.2 ≤ b.2)
def lenS (x : Nat → Int) (d : Dst) (s : Stp) : Dst := (d.1 + slk x s, d.2 + (s.2.2.2 : Int))
theorem ltD_iff (a b : Dst) : ltD a b = true ↔ a.1 < b.1 ∨ (a.1 = b.1 ∧ a.2 < b.2) := by simp [ltD]
theorem ltD_not (a b : Dst) : ltD a b = false ↔ leD b a := by
  have h := ltD_iff a b
  constructor
  · intro e
    rw [e] at h
    have : ¬ (a.1 < b.1 ∨ (a.1 = b.1 ∧ a.2 < b.2)) := fun k => by have := h.2 k; cases this
    unfold leD
    omega
  · intro e
    cases e2 : ltD a b
    · rfl
    · have := h.1 e2
      unfold leD at e
      omega
theorem leD_refl (a : Dst) : leD a a := Or.inr ⟨rfl, Int.le_refl _⟩
theorem leD_trans {a b c : Dst} (h : leD a b) (k : leD b c) : leD a c := by unfold leD at *; omega
theorem ltD_le {a b : Dst} (h : ltD a b = true) : leD a b := by rw [ltD_iff] at h; unfold leD; omega
theorem leD_lt {a b c : Dst} (h : leD a b) (k : ltD b c = true) : ltD a c = true := by rw [ltD_iff] at *; unfold leD at h; omega
theorem ltD_ne {a b : Dst} (h : ltD a b = true) : a ≠ b := by
  intro e
  subst e
  rw [ltD_iff] at h
  omega
theorem leD_anti {a b : Dst} (h : leD a b) (k : leD b a) : a = b := by
  unfold leD at *
  obtain ⟨a1, a2⟩ := a
  obtain ⟨b1, b2⟩ := b
  simp only at h k
  have h1 : a1 = b1 := by omega
  have h2 : a2 = b2 := by omega
  rw [h1, h2]

/-- Where the search stands: the nodes of P are done (each by the steps done), the heap has H; the node that was done last lies at last. -/
structure Dij (E : EndL) (n : Nat) (x f lf : Nat → Int) (done : Nat → List Stp) (P : List Nat) (far : Nat → Dst) (H : List (Int × Int × Int)) (near : Int) (last : Dst) : Prop where
  nd : P.Nodup
  lt : ∀ v ∈ P, v < n
  fin : ∀ v, v < n → far v ≠ infD → 0 ≤ (far v).1 ∧ (far v).1 ≤ x v + (far v).2 ∧ 0 ≤ (far v).2 ∧ (far v).2 ≤ P.length
  hp : ∀ e ∈ H, ∃ v : Nat, v < n ∧ e.1 = (v : Int) ∧ far v ≠ infD ∧ leD (far v) e.2 ∧ leD last e.2 ∧ (v ∈ P → far v ≠ e.2)
  hn : H.Nodup
  todo : ∀ v, v < n → far v ≠ infD → v ∈ P ∨ ((v : Int), far v) ∈ H
  le : ∀ v ∈ P, leD (far v) last ∧ far v ≠ infD
  rlx : ∀ v ∈ P, ∀ s ∈ done v, opn f s = true → leD (far s.2.2.1) (lenS x (far v) s)
  dfc : ∀ v ∈ P, lf v < 0 → near ≤ (far v).1
  nr : near = 9223372036854775807 ∨ ∃ t ∈ P, lf t < 0 ∧ (far t).1 = near
  pre : ∀ v, v < n → far v ≠ infD → (0 < lf v ∧ far v = (0, 0)) ∨ ∃ u ∈ P, ∃ s ∈ stps E u, s.2.2.1 = v ∧ opn f s = true ∧ far v = lenS x (far u) s
  src : ∀ v, v < n → 0 < lf v → far v = (0, 0)

/-- Where the first loop stands: all sources below k are there. -/
def far0 (lf : Nat → Int) (k v : Nat) : Dst := if v < k ∧ 0 < lf v then (0, 0) else infD
def hp0 (lf : Nat → Int) (k : Nat) : List (Int × Int × Int) := ((List.range k).filter fun v => decide (0 < lf v)).map fun (v : Nat) => ((v : Int), 0, 0)
theorem hp0_yes {lf : Nat → Int} {k : Nat} (h : 0 < lf k) : hp0 lf (k + 1) = hp0 lf k ++ [((k : Int), 0, 0)] := by
  unfold hp0
  rw [List.range_succ, List.filter_append, List.map_append]
  simp [h]
theorem hp0_no {lf : Nat → Int} {k : Nat} (h : ¬ 0 < lf k) : hp0 lf (k + 1) = hp0 lf k := by
  unfold hp0
  rw [List.range_succ, List.filter_append, List.map_append]
  simp [h]
theorem hp0_len (lf : Nat → Int) (k : Nat) : (hp0 lf k).length ≤ k := by
  unfold hp0
  rw [List.length_map]
  have := List.length_filter_le (fun v => decide (0 < lf v)) (List.range k)
  simpa using this
theorem far0_yes {lf : Nat → Int} {k : Nat} (h : 0 < lf k) (v : Nat) : far0 lf (k + 1) v = if v = k then (0, 0) else far0 lf k v := by
  unfold far0
  by_cases e : v = k
  · subst e; simp [h]
  · have : v < k + 1 ↔ v < k := by omega
    simp [e, this]
theorem far0_no {lf : Nat → Int} {k : Nat} (h : ¬ 0 < lf k) (v : Nat) : far0 lf (k + 1) v = far0 lf k v := by
  unfold far0
  by_cases e : v = k
  · subst e; simp [h]
  · have : v < k + 1 ↔ v < k := by omega
    simp [this]
section
variable {E : EndL} {n : Nat} {x f lf : Nat → Int} {done : Nat → List Stp} {P : List Nat} {far : Nat → Dst} {H : List (Int × Int × Int)} {near : Int} {last : Dst}
theorem dij_start (hx : ∀ v, v < n → 0 < lf v → 0 ≤ x v) : Dij E n x f lf done [] (far0 lf n) (hp0 lf n) 9223372036854775807 (0, 0) := by
  have hf : ∀ v, v < n → far0 lf n v ≠ infD → 0 < lf v ∧ far0 lf n v = (0, 0) := by
    intro v hv h
    unfold far0 at h ⊢
    by_cases e : v < n ∧ 0 < lf v
    · rw [if_pos e]; exact ⟨e.2, rfl⟩
    · rw [if_neg e] at h; exact absurd rfl h
  have h0 : ((0, 0) : Dst) ≠ infD := by simp [infD]
  refine ⟨List.nodup_nil, by simp, fun v hv h => ?_, fun e he => ?_, ?_, fun v hv h => Or.inr ?_, by simp, by simp, by simp, Or.inl rfl, fun v hv h => Or.inl (hf v hv h), fun v hv h => ?_⟩
  · obtain ⟨h1, h2⟩ := hf v hv h
    have := hx v hv h1
    rw [h2]
    simp; omega
  · obtain ⟨v, hv, rfl⟩ := List.mem_map.1 he
    have hv' : v < n ∧ 0 < lf v := by simpa using hv
    have e : far0 lf n v = (0, 0) := by unfold far0; rw [if_pos hv']
    exact ⟨v, hv'.1, rfl, by rw [e]; exact h0, by rw [e]; exact leD_refl _, leD_refl _, by simp⟩
  · unfold hp0
    have h1 : (List.range n).Nodup := List.nodup_range
    unfold List.Nodup at h1 ⊢
    rw [List.pairwise_map]
    refine (h1.sublist List.filter_sublist).imp fun {a b} hab e => hab ?_
    simp only [Prod.mk.injEq, and_true] at e
    omega
  · obtain ⟨h1, h2⟩ := hf v hv h
    rw [h2]
    exact List.mem_map.2 ⟨v, by simp; exact ⟨hv, h1⟩, rfl⟩
  · unfold far0; rw [if_pos ⟨hv, h⟩]

theorem mem_erase {α : Type} [DecidableEq α] {l : List α} {a : Nat} (ha : a < l.length) {y : α} (hy : y ∈ l) (hne : y ≠ l[a]) : y ∈ l.eraseIdx a := by
  rw [List.mem_eraseIdx_iff_getElem]
  obtain ⟨i, hi, rfl⟩ := List.mem_iff_getElem.1 hy
  refine ⟨i, hi, fun e => hne ?_, rfl⟩
  subst e; rfl
theorem nodup_erase_ne {α : Type} {l : List α} (h : l.Nodup) {a : Nat} (ha : a < l.length) {y : α} (hy : y ∈ l.eraseIdx a) : y ≠ l[a] := by
  rw [List.mem_eraseIdx_iff_getElem] at hy
  obtain ⟨i, hi, hne, rfl⟩ := hy
  intro e
  unfold List.Nodup at h
  rw [List.pairwise_iff_getElem] at h
  rcases Nat.lt_or_gt_of_ne hne with k | k
  · exact h i a hi ha k e
  · exact h a i ha hi k e.symm
theorem Dij.skip (h : Dij E n x f lf done P far H near last) {a : Nat} (ha : a < H.length) (v : Nat) (hv : H[a].1 = (v : Int)) (hne : far v ≠ H[a].2) : Dij E n x f lf done P far (H.eraseIdx a) near last := by
  refine ⟨h.nd, h.lt, h.fin, fun e he => h.hp e (List.mem_of_mem_eraseIdx he), h.hn.eraseIdx _, fun u hu hf => ?_, h.le, h.rlx, h.dfc, h.nr, h.pre, h.src⟩
  refine (h.todo u hu hf).imp id fun hm => mem_erase ha hm fun e => ?_
  rw [← e] at hv hne
  simp only at hv hne
  have : u = v := by omega
  subst this
  exact hne rfl
/-- The nearest node is begun. -/
theorem Dij.begin (h : Dij E n x f lf (stps E) P far H near last) {a : Nat} (ha : a < H.length) (v : Nat) (hv : H[a].1 = (v : Int)) (he : far v = H[a].2) (hmin : ∀ e ∈ H, leD H[a].2 e.2) (hnr : (far v).1 ≤ near) :
    v ∉ P ∧ v < n ∧ Dij E n x f lf (fun u => if u = v then (stps E v).take 0 else stps E u) (v :: P) far (H.eraseIdx a) (if lf v < 0 then (far v).1 else near) (far v) ∧ far v ≠ infD ∧ (far v).2 ≤ P.length := by
  obtain ⟨v', hv', e1, hfi, hle, hla, hP⟩ := h.hp H[a] (List.getElem_mem ha)
  have : v' = v := by omega
  subst this
  have hvP : v' ∉ P := fun e => hP e he
  have hnn : (if lf v' < 0 then (far v').1 else near) ≤ near := by split <;> omega
  refine ⟨hvP, hv', ⟨List.nodup_cons.2 ⟨hvP, h.nd⟩, ?_, fun u hu hf => ?_, fun e hm => ?_, h.hn.eraseIdx _, fun u hu hf => ?_, fun u hu => ?_, fun u hu s hs ho => ?_, fun u hu hl => ?_, ?_, fun u hu hf => ?_, h.src⟩, hfi, (h.fin v' hv' hfi).2.2.2⟩
  · intro u hu
    rcases List.mem_cons.1 hu with rfl | hu
    · exact hv'
    · exact h.lt u hu
  · have := h.fin u hu hf
    simp only [List.length_cons]
    omega
  · have hm' := List.mem_of_mem_eraseIdx hm
    obtain ⟨u, hu, k1, k2, k3, _, k5⟩ := h.hp e hm'
    refine ⟨u, hu, k1, k2, k3, by rw [he]; exact hmin e hm', fun hP e2 => ?_⟩
    rcases List.mem_cons.1 hP with rfl | hP
    · have : e = H[a] := by
        obtain ⟨e1', e2'⟩ := e
        have h1 : H[a] = (H[a].1, H[a].2) := rfl
        rw [h1, hv, ← he, e2, ← k1]
      exact nodup_erase_ne h.hn ha hm this
    · exact k5 hP e2
  · by_cases e : u = v'
    · exact Or.inl (by simp [e])
    · rcases h.todo u hu hf with k | k
      · exact Or.inl (List.mem_cons_of_mem _ k)
      · refine Or.inr (mem_erase ha k fun e2 => e ?_)
        rw [← e2] at hv
        simp only at hv
        omega
  · rcases List.mem_cons.1 hu with rfl | hu
    · exact ⟨leD_refl _, hfi⟩
    · refine ⟨leD_trans (h.le u hu).1 ?_, (h.le u hu).2⟩
      rw [he]; exact hla
  · by_cases e : u = v'
    · subst e; simp at hs
    · simp only [if_neg e] at hs
      rcases List.mem_cons.1 hu with hu | hu
      · exact absurd hu e
      · exact h.rlx u hu s hs ho
  · rcases List.mem_cons.1 hu with rfl | hu
    · rw [if_pos hl]; exact Int.le_refl _
    · have := h.dfc u hu hl; omega
  · by_cases e : lf v' < 0
    · rw [if_pos e]; exact Or.inr ⟨v', by simp, e, rfl⟩
    · rw [if_neg e]
      exact h.nr.imp id fun ⟨t, ht, k⟩ => ⟨t, List.mem_cons_of_mem _ ht, k⟩
  · exact (h.pre u hu hf).imp id fun ⟨t, ht, k⟩ => ⟨t, List.mem_cons_of_mem _ ht, k⟩

variable {v j : Nat}
/-- A step that isn't taken. -/
theorem Dij.pass (h : Dij E n x f lf (fun u => if u = v then (stps E v).take j else stps E u) P far H near last) (hj : j < (stps E v).length) (hno : opn f (stps E v)[j] = true → leD (far (stps E v)[j].2.2.1) (lenS x (far v) (stps E v)[j])) :
    Dij E n x f lf (fun u => if u = v then (stps E v).take (j + 1) else stps E u) P far H near last := by
  refine ⟨h.nd, h.lt, h.fin, h.hp, h.hn, h.todo, h.le, fun u hu s hs ho => ?_, h.dfc, h.nr, h.pre, h.src⟩
  by_cases e : u = v
  · subst e
    simp only [if_true] at hs
    rw [List.take_succ_eq_append_getElem hj, List.mem_append] at hs
    rcases hs with hs | hs
    · exact h.rlx u hu s (by simpa using hs) ho
    · simp at hs
      subst hs
      exact hno ho
  · simp only [if_neg e] at hs
    exact h.rlx u hu s (by simpa [e] using hs) ho
/-- A step by which a node is nearer than was known. -/
theorem Dij.relax (hn : n ≤ 4096) (hF : Fits E n x f) (h : Dij E n x f lf (fun u => if u = v then (stps E v).take j else stps E u) P far H near (far v)) (hj : j < (stps E v).length) (hvP : v ∈ P) (hb : (far v).2 + 1 ≤ P.length)
    (ho : opn f (stps E v)[j] = true) (hlt : ltD (lenS x (far v) (stps E v)[j]) (far (stps E v)[j].2.2.1) = true) :
    (stps E v)[j].2.2.1 ≠ v ∧ Dij E n x f lf (fun u => if u = v then (stps E v).take (j + 1) else stps E u) P (fun u => if u = (stps E v)[j].2.2.1 then lenS x (far v) (stps E v)[j] else far u) (H ++ [(((stps E v)[j].2.2.1 : Int), lenS x (far v) (stps E v)[j])]) near (far v) := by
  have hs := List.getElem_mem hj
  have htk : (stps E v).take (j + 1) = (stps E v).take j ++ [(stps E v)[j]] := List.take_succ_eq_append_getElem hj
  generalize (stps E v)[j] = s at *
  obtain ⟨c1, c2, c3, c4, c5, c6, c7, c8⟩ := hF.step hs
  have hfv := (h.le v hvP).2
  obtain ⟨b1, b2, b3, b4⟩ := h.fin v c3 hfv
  generalize htd : s.2.2.1 = t at *
  generalize hdd : lenS x (far v) s = d at *
  have hd : d.1 = (far v).1 + slk x s ∧ d.2 = (far v).2 + (s.2.2.2 : Int) := by rw [← hdd]; exact ⟨rfl, rfl⟩
  have hled : leD (far v) d := by unfold leD; omega
  have htP : t ∉ P := fun e => by
    have h1 := (h.le t e).1
    have h2 := leD_lt (leD_trans h1 hled) hlt
    rw [ltD_iff] at h2; omega
  have htv : t ≠ v := fun e => htP (e ▸ hvP)
  have hnl : opn f s = true := ho
  have hbd : 0 ≤ d.1 ∧ d.1 ≤ x t + d.2 ∧ 0 ≤ d.2 ∧ d.2 ≤ P.length := by
    rcases Nat.lt_or_ge 0 s.2.2.2 with k | k
    · have k1 : s.2.2.2 = 1 := by omega
      obtain ⟨k2, _, k3⟩ := c8 k1
      have := k3 ho
      rw [k1] at hd
      omega
    · have k1 : s.2.2.2 = 0 := by omega
      obtain ⟨k2, _⟩ := c7 k1
      rw [k1] at hd
      omega
  have hdf : d ≠ infD := fun e => by
    have h2 := pigeon h.nd h.lt
    rw [e] at hbd
    simp only [infD] at hbd
    omega
  have hun : ∀ u, u ≠ t → (if u = t then d else far u) = far u := fun u e => if_neg e
  have hinP : ∀ u ∈ P, (if u = t then d else far u) = far u := fun u hu => hun u (fun e => htP (e ▸ hu))
  refine ⟨htv, ⟨h.nd, h.lt, fun u hu hf => ?_, fun e he => ?_, ?_, fun u hu hf => ?_, fun u hu => ?_, fun u hu s' hs' ho' => ?_, fun u hu hl => ?_, ?_, fun u hu hf => ?_, fun u hu hl => ?_⟩⟩
  · by_cases e : u = t
    · subst e; simp only [if_true]; exact hbd
    · simp only [if_neg e] at hf ⊢; exact h.fin u hu hf
  · rcases List.mem_append.1 he with he | he
    · obtain ⟨u, hu, k1, k2, k3, k4, k5⟩ := h.hp e he
      refine ⟨u, hu, k1, ?_, ?_, k4, fun hP => ?_⟩
      · by_cases e2 : u = t
        · subst e2; simp only [if_true]; exact hdf
        · simp only [if_neg e2]; exact k2
      · by_cases e2 : u = t
        · subst e2; simp only [if_true]; exact leD_trans (ltD_le hlt) k3
        · simp only [if_neg e2]; exact k3
      · rw [hinP u hP]; exact k5 hP
    · simp at he
      subst he
      refine ⟨t, c4, rfl, ?_, ?_, hled, fun hP => absurd hP htP⟩
      · simp only [if_true]; exact hdf
      · simp only [if_true]; exact leD_refl _
  · rw [List.nodup_append]
    refine ⟨h.hn, by simp, fun a ha b hb e => ?_⟩
    simp at hb
    subst hb
    subst e
    obtain ⟨u, hu, k1, k2, k3, _, _⟩ := h.hp _ ha
    simp only at k1 k3
    have : u = t := by omega
    subst this
    have := leD_lt k3 hlt
    rw [ltD_iff] at this; omega
  · by_cases e : u = t
    · subst e; simp only [if_true]; exact Or.inr (by simp)
    · simp only [if_neg e] at hf ⊢
      exact (h.todo u hu hf).imp id fun k => by simp [k]
  · rw [hinP u hu]; exact h.le u hu
  · rw [hinP u hu]
    have key : ∀ w, leD (if w = t then d else far w) (far w) := fun w => by
      by_cases e : w = t
      · subst e; simp only [if_true]; exact ltD_le hlt
      · simp only [if_neg e]; exact leD_refl _
    by_cases e : u = v
    · subst e
      simp only [if_true] at hs'
      rw [htk, List.mem_append] at hs'
      rcases hs' with hs' | hs'
      · exact leD_trans (key _) (h.rlx u hu s' (by simpa using hs') ho')
      · simp at hs'
        subst hs'
        rw [htd]
        simp only [if_true]
        rw [← hdd]
        exact leD_refl _
    · simp only [if_neg e] at hs'
      exact leD_trans (key _) (h.rlx u hu s' (by simpa [e] using hs') ho')
  · rw [hinP u hu]; exact h.dfc u hu hl
  · exact h.nr.imp id fun ⟨w, hw, k1, k2⟩ => ⟨w, hw, k1, by rw [hinP w hw]; exact k2⟩
  · by_cases e : u = t
    · subst e
      simp only [if_true]
      exact Or.inr ⟨v, hvP, s, hs, htd, ho, by rw [hinP v hvP]; exact hdd.symm⟩
    · simp only [if_neg e] at hf ⊢
      refine (h.pre u hu hf).imp id fun ⟨w, hw, s', k1, k2, k3, k4⟩ => ⟨w, hw, s', k1, k2, k3, ?_⟩
      rw [hinP w hw]; exact k4
  · by_cases e : u = t
    · subst e
      exfalso
      have := h.src u hu hl
      rw [this, ltD_iff] at hlt
      simp only at hlt
      omega
    · simp only [if_neg e]; exact h.src u hu hl
theorem Dij.all (h : Dij E n x f lf (fun u => if u = v then (stps E v).take (stps E v).length else stps E u) P far H near last) : Dij E n x f lf (stps E) P far H near last := by
  have e : (fun u => if u = v then (stps E v).take (stps E v).length else stps E u) = stps E := by
    funext u
    by_cases e : u = v
    · subst e; simp
    · simp [e]
  rw [e] at h
  exact h
end

/-- What the search has found. -/
structure Found (E : EndL) (n : Nat) (x f lf : Nat → Int) (far : Nat → Dst) (near : Int) : Prop where
  fin : ∀ v, v < n → far v ≠ infD → 0 ≤ (far v).1 ∧ (far v).1 ≤ x v + (far v).2 ∧ 0 ≤ (far v).2 ∧ (far v).2 ≤ n
  rlx : ∀ v, v < n → (far v).1 ≤ near → far v ≠ infD → ∀ s ∈ stps E v, opn f s = true → leD (far s.2.2.1) (lenS x (far v) s)
  dfc : ∀ v, v < n → lf v < 0 → near ≤ (far v).1
  nr : near = 9223372036854775807 ∨ ∃ t, t < n ∧ lf t < 0 ∧ (far t).1 = near ∧ far t ≠ infD
  pre : ∀ v, v < n → far v ≠ infD → (0 < lf v ∧ far v = (0, 0)) ∨ ∃ u, u < n ∧ far u ≠ infD ∧ ∃ s ∈ stps E u, s.2.2.1 = v ∧ opn f s = true ∧ far v = lenS x (far u) s
  src : ∀ v, v < n → 0 < lf v → far v = (0, 0)
  n0 : 0 ≤ near ∧ near ≤ 9223372036854775807
section
variable {E : EndL} {n : Nat} {x f lf : Nat → Int} {P : List Nat} {far : Nat → Dst} {H : List (Int × Int × Int)} {near : Int} {last : Dst}
theorem Dij.nearB (h : Dij E n x f lf (stps E) P far H near last) (hn : n ≤ 4096) (hx : ∀ v, v < n → x v ≤ 4096) : 0 ≤ near ∧ near ≤ 9223372036854775807 := by
  rcases h.nr with e | ⟨t, ht, _, e⟩
  · omega
  · have h1 := h.fin t (h.lt t ht) (h.le t ht).2
    have h2 := pigeon h.nd h.lt
    have := hx t (h.lt t ht)
    omega
/-- All that is left in the heap is farther than near. -/
theorem Dij.found (h : Dij E n x f lf (stps E) P far H near last) (hn : n ≤ 4096) (hx : ∀ v, v < n → x v ≤ 4096) (hH : ∀ e ∈ H, near < e.2.1) : Found E n x f lf far near := by
  have hlen := pigeon h.nd h.lt
  refine ⟨fun v hv hf => by have := h.fin v hv hf; omega, fun v hv hle hf s hs ho => ?_, fun v hv hl => ?_, ?_, fun v hv hf => ?_, h.src, h.nearB hn hx⟩
  · rcases h.todo v hv hf with k | k
    · exact h.rlx v k s hs ho
    · have := hH _ k; simp only at this; omega
  · by_cases hf : far v = infD
    · rw [hf]; have := (h.nearB hn hx).2; simpa [infD] using this
    · rcases h.todo v hv hf with k | k
      · exact h.dfc v k hl
      · have := hH _ k; simp only at this; omega
  · exact h.nr.imp id fun ⟨t, ht, k1, k2⟩ => ⟨t, h.lt t ht, k1, k2, (h.le t ht).2⟩
  · exact (h.pre v hv hf).imp id fun ⟨u, hu, k⟩ => ⟨u, h.lt u hu, (h.le u hu).2, k⟩
end

/-! How many steps there are. -/
def degS (E : EndL) : List Nat → List Nat → Nat
  | [], _ => 0
  | a :: l, P => (if a ∈ P then 0 else (stps E a).length) + degS E l P
theorem degS_no (E : EndL) {v : Nat} {P : List Nat} : ∀ l : List Nat, v ∉ l → degS E l P = degS E l (v :: P) := by
  intro l
  induction l with
  | nil => intro _; rfl
  | cons a l ih =>
    intro h
    have h1 : ¬ a = v := fun e => h (by simp [e])
    have h2 := ih (fun e => h (by simp [e]))
    simp only [degS, List.mem_cons, h1, false_or, h2]
theorem degS_cons (E : EndL) {v : Nat} {P : List Nat} (hv : v ∉ P) : ∀ l : List Nat, l.Nodup → v ∈ l → degS E l P = degS E l (v :: P) + (stps E v).length := by
  intro l
  induction l with
  | nil => intro _ h; simp at h
  | cons a l ih =>
    intro hn h
    have hn' := List.nodup_cons.1 hn
    by_cases e : a = v
    · subst e
      have h2 := degS_no E (P := P) l hn'.1
      simp only [degS, hv, if_false, List.mem_cons, true_or, if_true, h2]
      omega
    · have hm : v ∈ l := by
        rcases List.mem_cons.1 h with h | h
        · exact absurd h.symm e
        · exact h
      have h2 := ih hn'.2 hm
      simp only [degS, List.mem_cons, e, false_or, h2]
      omega
theorem degS_nil (E : EndL) : ∀ l : List Nat, degS E l [] = (l.map fun u => (stps E u).length).sum := by
  intro l
  induction l with
  | nil => rfl
  | cons a l ih => simp [degS, ih]
theorem stpsK_sum (E : EndL) (n : Nat) : ∀ k, ((List.range n).map fun u => (stpsK E k u).length).sum ≤ 2 * k := by
  intro k
  induction k with
  | zero =>
    have : ∀ l : List Nat, (l.map fun _ => 0).sum = 0 := by
      intro l
      induction l with
      | nil => rfl
      | cons a l ih => simp [ih]
    simp [stpsK, this]
  | succ k ih =>
    have e : ((List.range n).map fun u => (stpsK E (k + 1) u).length) = (List.range n).map fun u => (stpsK E k u).length + (stpA u k (E.getD k (0, 0))).length := by
      refine List.map_congr_left fun u _ => ?_
      rw [stpsK_succ, List.length_append]
    have split : ∀ (A B : Nat → Nat) (l : List Nat), (l.map fun v => A v + B v).sum = (l.map A).sum + (l.map B).sum := by
      intro A B l
      induction l with
      | nil => rfl
      | cons a l ih => simp only [List.map_cons, List.sum_cons, ih]; omega
    have ind : ∀ (b : Nat) (m : Nat), ((List.range m).map fun u => if b = u then 1 else 0).sum ≤ 1 := by
      intro b m
      have z : ∀ m, m ≤ b → ((List.range m).map fun u => if b = u then 1 else 0).sum = 0 := by
        intro m
        induction m with
        | zero => intro _; simp
        | succ m ih =>
          intro h
          rw [List.range_succ, List.map_append, List.sum_append, ih (by omega)]
          simp; omega
      induction m with
      | zero => simp
      | succ m ih =>
        rw [List.range_succ, List.map_append, List.sum_append]
        by_cases e : b = m
        · subst e; rw [z b (Nat.le_refl _)]; simp
        · simp [e]; exact ih
    rw [e, split]
    have h1 : ((List.range n).map fun u => (stpA u k (E.getD k (0, 0))).length) = (List.range n).map fun u => (if (E.getD k (0, 0)).1 = u then 1 else 0) + (if (E.getD k (0, 0)).2 = u then 1 else 0) := by
      refine List.map_congr_left fun u _ => ?_
      unfold stpA
      split <;> split <;> simp
    rw [h1, split]
    have h2 := ind (E.getD k (0, 0)).1 n
    have h3 := ind (E.getD k (0, 0)).2 n
    omega
theorem degS_all (E : EndL) (n : Nat) : degS E (List.range n) [] ≤ 2 * E.length := by
  rw [degS_nil]
  exact stpsK_sum E n E.length
end Go.Proofs.YtappfojjjegnpaaGreatDoor.DagM

namespace Go.Proofs.YtappfojjjegnpaaGreatDoor.DagM

def sumK (g : Nat → Int) : Nat → Int
  | 0 => 0
  | m + 1 => sumK g m + g m
theorem sumK_congr {g h : Nat → Int} : ∀ n, (∀ v, v < n → g v = h v) → sumK g n = sumK h n
  | 0, _ => rfl
  | n + 1, e => by simp only [sumK]; rw [sumK_congr n (fun v hv => e v (by omega)), e n (by omega)]
theorem sumK_add (g h : Nat → Int) : ∀ n, sumK (fun v => g v + h v) n = sumK g n + sumK h n
  | 0 => rfl
  | n + 1 => by simp only [sumK]; rw [sumK_add g h n]; omega
theorem sumK_sub (g h : Nat → Int) : ∀ n, sumK (fun v => g v - h v) n = sumK g n - sumK h n
  | 0 => rfl
  | n + 1 => by simp only [sumK]; rw [sumK_sub g h n]; omega
theorem sumK_le {g h : Nat → Int} : ∀ n, (∀ v, v < n → g v ≤ h v) → sumK g n ≤ sumK h n
  | 0, _ => Int.le_refl _
  | n + 1, e => by simp only [sumK]; have := sumK_le n (fun v hv => e v (by omega)); have := e n (by omega); omega
theorem sumK_zero : ∀ n, sumK (fun _ => 0) n = 0
  | 0 => rfl
  | n + 1 => by simp only [sumK]; rw [sumK_zero n]; rfl
theorem sumK_ge {g : Nat → Int} : ∀ n, (∀ v, v < n → 0 ≤ g v) → ∀ v, v < n → g v ≤ sumK g n
  | 0, _, v, hv => by omega
  | n + 1, e, v, hv => by
    simp only [sumK]
    have h0 : 0 ≤ sumK g n := by have := sumK_le (g := fun _ => 0) (h := g) n (fun v hv => e v (by omega)); rw [sumK_zero] at this; exact this
    by_cases h : v = n
    · subst h; omega
    · have := sumK_ge n (fun v hv => e v (by omega)) v (by omega); have := e n (by omega); omega
theorem sumK_upd (g : Nat → Int) (i : Nat) (c : Int) : ∀ n, sumK (fun v => if v = i then c else g v) n = if i < n then sumK g n - g i + c else sumK g n
  | 0 => by simp [sumK]
  | n + 1 => by
    simp only [sumK]
    rw [sumK_upd g i c n]
    by_cases h : n = i
    · subst h; simp
    · by_cases k : i < n
      · have : i < n + 1 := by omega
        simp [h, k, this]; omega
      · have : ¬ i < n + 1 := by omega
        simp [h, k, this]
theorem sumK_ind (y : Nat → Int) (i : Nat) (c : Int) (n : Nat) (h : i < n) : sumK (fun v => y v * (if i = v then c else 0)) n = y i * c := by
  have e : sumK (fun v => y v * (if i = v then c else 0)) n = sumK (fun v => if v = i then y i * c else (fun _ => (0 : Int)) v) n := by
    refine sumK_congr n fun v _ => ?_
    by_cases k : v = i
    · subst k; simp
    · have q : ¬ i = v := fun q => k q.symm
      simp [k, q]
  rw [e, sumK_upd, if_pos h, sumK_zero]
  omega

/-- What flows from a node, less what flows to it, along the first m arcs. -/
def netK (E : EndL) (f : Nat → Int) : Nat → Nat → Int
  | 0, _ => 0
  | m + 1, v => netK E f m v + ((if (E.getD m (0, 0)).1 = v then f m else 0) - (if (E.getD m (0, 0)).2 = v then f m else 0))
def netE (E : EndL) (f : Nat → Int) (v : Nat) : Int := netK E f E.length v
theorem netK_upd (E : EndL) (f : Nat → Int) (i : Nat) (c : Int) (v : Nat) : ∀ m, netK E (fun j => if j = i then c else f j) m v = if i < m then netK E f m v + ((if (E.getD i (0, 0)).1 = v then c - f i else 0) - (if (E.getD i (0, 0)).2 = v then c - f i else 0)) else netK E f m v
  | 0 => by simp [netK]
  | m + 1 => by
    simp only [netK]
    rw [netK_upd E f i c v m]
    by_cases h : m = i
    · subst h
      simp only [Nat.lt_irrefl, if_false, if_true, Nat.lt_succ_self]
      split <;> split <;> omega
    · by_cases k : i < m
      · have : i < m + 1 := by omega
        simp only [h, k, this, if_true, if_false]
        omega
      · have : ¬ i < m + 1 := by omega
        simp only [h, k, this, if_false]
theorem dotK (E : EndL) (n : Nat) (y f : Nat → Int) : ∀ m, (∀ i, i < m → (E.getD i (0, 0)).1 < n ∧ (E.getD i (0, 0)).2 < n) → sumK (fun v => y v * netK E f m v) n = sumK (fun i => f i * (y (E.getD i (0, 0)).1 - y (E.getD i (0, 0)).2)) m
  | 0, _ => by simp only [netK, Int.mul_zero]; rw [sumK_zero]; rfl
  | m + 1, h => by
    have hm := h m (by omega)
    simp only [netK, sumK]
    rw [← dotK E n y f m (fun i hi => h i (by omega))]
    have e : sumK (fun v => y v * (netK E f m v + ((if (E.getD m (0, 0)).1 = v then f m else 0) - (if (E.getD m (0, 0)).2 = v then f m else 0)))) n = sumK (fun v => y v * netK E f m v + (y v * (if (E.getD m (0, 0)).1 = v then f m else 0) - y v * (if (E.getD m (0, 0)).2 = v then f m else 0))) n :=
      sumK_congr n (fun v _ => by (try simp only); rw [Int.mul_add, Int.mul_sub])
    rw [e, sumK_add, sumK_sub, sumK_ind y _ _ n hm.1, sumK_ind y _ _ n hm.2, Int.mul_sub, Int.mul_comm (f m), Int.mul_comm (f m)]

/-- What is left of each node is what should flow from it, less what does. -/
def Bal (E : EndL) (n : Nat) (wt f lf : Nat → Int) : Prop := ∀ v, v < n → lf v = netE E wt v - netE E f v
theorem bal_dot {E : EndL} {n : Nat} {wt f lf : Nat → Int} (hE : ∀ i, i < E.length → (E.getD i (0, 0)).1 < n ∧ (E.getD i (0, 0)).2 < n) (h : Bal E n wt f lf) (y : Nat → Int) :
    sumK (fun v => y v * lf v) n = sumK (fun i => (wt i - f i) * (y (E.getD i (0, 0)).1 - y (E.getD i (0, 0)).2)) E.length := by
  have e : sumK (fun v => y v * lf v) n = sumK (fun v => y v * netK E wt E.length v - y v * netK E f E.length v) n := sumK_congr n (fun v hv => by (try simp only); rw [h v hv, Int.mul_sub]; rfl)
  rw [e, sumK_sub, dotK E n y wt _ hE, dotK E n y f _ hE, ← sumK_sub]
  exact sumK_congr _ (fun i _ => by (try simp only); rw [Int.sub_mul])
/-- When nothing is left to flow from any node, nothing is left at all. -/
theorem bal_done {E : EndL} {n : Nat} {wt f lf : Nat → Int} (hE : ∀ i, i < E.length → (E.getD i (0, 0)).1 < n ∧ (E.getD i (0, 0)).2 < n) (h : Bal E n wt f lf) (h0 : ∀ v, v < n → ¬ 0 < lf v) : ∀ v, v < n → lf v = 0 := by
  have e := bal_dot hE h (fun _ => 1)
  have z : sumK (fun i => (wt i - f i) * ((fun _ => (1 : Int)) (E.getD i (0, 0)).1 - (fun _ => (1 : Int)) (E.getD i (0, 0)).2)) E.length = 0 := by
    refine (sumK_congr _ (fun i _ => ?_)).trans (sumK_zero E.length)
    simp
  rw [z] at e
  intro v hv
  have h1 := sumK_ge (g := fun v => 0 - lf v) n (fun v hv => by have := h0 v hv; (try simp only); omega) v hv
  rw [sumK_sub, sumK_zero] at h1
  have h2 : sumK (fun v => (fun _ => (1 : Int)) v * lf v) n = sumK (fun v => lf v) n := sumK_congr n (fun v _ => by simp)
  rw [h2] at e
  have h3 : sumK (fun v => lf v) n = sumK lf n := rfl
  have := h0 v hv
  (try simp only at h1)
  omega
/-- From what has something left a way leads to where something is missing. -/
theorem Found.reach {E : EndL} {n : Nat} {x f lf wt : Nat → Int} {far : Nat → Dst} {near : Int} (hF : Fits E n x f) (hB : Bal E n wt f lf) (hw : ∀ i, i < E.length → 0 ≤ wt i) (hn : n ≤ 4096) (hx : ∀ v, v < n → x v ≤ 4096)
    (h : Found E n x f lf far near) {s : Nat} (hs : s < n) (hls : 0 < lf s) : near ≠ 9223372036854775807 := by
  intro e
  have small : ∀ v, v < n → far v ≠ infD → (far v).1 ≤ 8192 ∧ (far v).2 ≤ 4096 := fun v hv hf => by
    have h1 := h.fin v hv hf
    have h2 := hx v hv
    omega
  have hd := bal_dot hF.ends hB (fun v => if far v = infD then 0 else 1)
  have hR : sumK (fun i => (wt i - f i) * ((fun v => if far v = infD then (0 : Int) else 1) (E.getD i (0, 0)).1 - (fun v => if far v = infD then (0 : Int) else 1) (E.getD i (0, 0)).2)) E.length ≤ 0 := by
    refine Int.le_trans (sumK_le (h := fun _ => 0) E.length fun i hi => ?_) (by rw [sumK_zero]; exact Int.le_refl _)
    (try simp only)
    have he := hF.ends i hi
    have hw := hw i hi
    have fwd : far (E.getD i (0, 0)).1 ≠ infD → far (E.getD i (0, 0)).2 ≠ infD := fun k => by
      have h1 := h.rlx _ he.1 (by rw [e]; have := small _ he.1 k; omega) k _ (stps_fwd hi) (by simp [opn])
      intro k2
      simp only at h1
      rw [k2] at h1
      have h2 := small _ he.1 k
      have h3 : lenS x (far (E.getD i (0, 0)).1) (i, (E.getD i (0, 0)).1, (E.getD i (0, 0)).2, 0) = ((far (E.getD i (0, 0)).1).1 + (x (E.getD i (0, 0)).2 - x (E.getD i (0, 0)).1 - 1), (far (E.getD i (0, 0)).1).2 + 0) := rfl
      rw [h3] at h1
      have h4 := h.fin _ he.1 k
      have h5 := hx _ he.2
      unfold leD infD at h1
      simp only at h1
      omega
    have bck : 0 < f i → far (E.getD i (0, 0)).2 ≠ infD → far (E.getD i (0, 0)).1 ≠ infD := fun hf k => by
      have h1 := h.rlx _ he.2 (by rw [e]; have := small _ he.2 k; omega) k _ (stps_bck hi) (by simp [opn, hf])
      intro k2
      simp only at h1
      rw [k2] at h1
      have h2 := small _ he.2 k
      have h3 : lenS x (far (E.getD i (0, 0)).2) (i, (E.getD i (0, 0)).2, (E.getD i (0, 0)).1, 1) = ((far (E.getD i (0, 0)).2).1 + 0, (far (E.getD i (0, 0)).2).2 + 1) := rfl
      rw [h3] at h1
      unfold leD infD at h1
      simp only at h1
      omega
    have hf := hF.nn i hi
    by_cases k1 : far (E.getD i (0, 0)).1 = infD
    · by_cases k2 : far (E.getD i (0, 0)).2 = infD
      · rw [if_pos k1, if_pos k2]; simp
      · have : f i = 0 := by
          rcases Int.lt_or_le 0 (f i) with q | q
          · exact absurd k1 (bck q k2)
          · omega
        rw [if_pos k1, if_neg k2, this]
        omega
    · have k2 := fwd k1
      rw [if_neg k1, if_neg k2]; simp
  have hL : lf s ≤ sumK (fun v => (fun v => if far v = infD then (0 : Int) else 1) v * lf v) n := by
    have h1 := sumK_ge (g := fun v => (fun v => if far v = infD then (0 : Int) else 1) v * lf v) n (fun v hv => by
      simp only
      by_cases k : far v = infD
      · simp [k]
      · rw [if_neg k]
        rcases Int.lt_or_le (lf v) 0 with q | q
        · have := h.dfc v hv q
          have := small v hv k
          omega
        · omega) s hs
    have h2 : far s ≠ infD := by rw [h.src s hs hls]; simp [infD]
    (try simp only at h1)
    rw [if_neg h2, Int.one_mul] at h1
    exact h1
  rw [hd] at hL
  exact absurd (Int.lt_of_lt_of_le hls (Int.le_trans hL hR)) (Int.lt_irrefl _)

/-- Where letFlow stands. -/
structure Net (E : EndL) (n : Nat) (wt x0 : Nat → Int) (tot : Int) (x f lf : Nat → Int) (D tk : Int) : Prop where
  fits : Fits E n x f
  bal : Bal E n wt f lf
  d0 : 0 ≤ D
  d1 : D ≤ 2 * (n : Int)
  hi : ∀ v, v < n → x v ≤ x0 v
  lo : ∀ v, v < n → x0 v - D ≤ x v
  src : ∀ v, v < n → 0 < lf v → x v = x0 v
  dst : ∀ v, v < n → lf v < 0 → x v = x0 v - D
  tk0 : 0 ≤ tk
  tk1 : tk + sumK (fun v => max 0 (lf v)) n ≤ tot
  fb : ∀ i, i < E.length → f i + sumK (fun v => max 0 (lf v)) n ≤ tot
/-- What the dag brings along. -/
structure Dag (E : EndL) (n : Nat) (wt x0 : Nat → Int) (tot : Int) : Prop where
  n1 : n ≤ 4096
  m1 : E.length ≤ 16384
  w0 : ∀ i, i < E.length → 0 ≤ wt i
  x0 : ∀ v, v < n → 0 ≤ x0 v ∧ x0 v ≤ n
  tot : 0 ≤ tot ∧ tot ≤ 100000000000000
section
variable {E : EndL} {n : Nat} {wt x0 x f lf : Nat → Int} {tot D tk near : Int} {far : Nat → Dst}
theorem Net.xb (h : Net E n wt x0 tot x f lf D tk) (g : Dag E n wt x0 tot) {v : Nat} (hv : v < n) : -8192 ≤ x v ∧ x v ≤ 4096 := by
  have h1 := h.hi v hv
  have h2 := h.lo v hv
  have h3 := g.x0 v hv
  have h4 := h.d1
  have h5 := g.n1
  omega
theorem Net.x2n (h : Net E n wt x0 tot x f lf D tk) (g : Dag E n wt x0 tot) {v : Nat} (hv : v < n) : -(2 * (n : Int)) ≤ x v ∧ x v ≤ n := by
  have h1 := h.hi v hv
  have h2 := h.lo v hv
  have h3 := g.x0 v hv
  have h4 := h.d1
  omega
theorem Net.pos0 (_h : Net E n wt x0 tot x f lf D tk) : 0 ≤ sumK (fun v => max 0 (lf v)) n := by
  have := sumK_le (g := fun _ => 0) (h := fun v => max 0 (lf v)) n (fun v _ => by (try simp only); omega)
  rw [sumK_zero] at this
  exact this
theorem Net.fb2 (h : Net E n wt x0 tot x f lf D tk) (g : Dag E n wt x0 tot) {i : Nat} (hi : i < E.length) : 0 ≤ f i ∧ f i ≤ 100000000000000 := by
  have h1 := h.fits.nn i hi
  have h2 := h.fb i hi
  have h3 := h.pos0
  have h4 := g.tot
  omega
/-- The coordinates are lowered. -/
theorem Net.lower (h : Net E n wt x0 tot x f lf D tk) (g : Dag E n wt x0 tot) (k : Found E n x f lf far near) (hne : near ≠ 9223372036854775807) :
    near ≤ 12288 ∧ Net E n wt x0 tot (fun v => x v - min (far v).1 near) f lf (D + near) tk := by
  have hn0 := k.n0
  have f0 : ∀ v, v < n → 0 ≤ (far v).1 := fun v hv => by
    by_cases e : far v = infD
    · rw [e]; simp [infD]
    · exact (k.fin v hv e).1
  have nin : ∀ v, (far v).1 ≤ near → far v ≠ infD := fun v hv e => by rw [e] at hv; simp only [infD] at hv; omega
  obtain ⟨t, ht, hlt, htn, htf⟩ : ∃ t, t < n ∧ lf t < 0 ∧ (far t).1 = near ∧ far t ≠ infD := by
    rcases k.nr with e | e
    · exact absurd e hne
    · exact e
  have ht1 := k.fin t ht htf
  have ht2 := h.dst t ht hlt
  have ht3 := g.x0 t ht
  have hd0 := h.d0
  have hgn := g.n1
  have st : ∀ i, i < E.length → min (far (E.getD i (0, 0)).2).1 near ≤ min (far (E.getD i (0, 0)).1).1 near + (x (E.getD i (0, 0)).2 - x (E.getD i (0, 0)).1 - 1) := fun i hi => by
    have he := h.fits.ends i hi
    have hf := h.fits.fit i hi
    have h0 := f0 _ he.1
    by_cases q : (far (E.getD i (0, 0)).1).1 ≤ near
    · have h1 := k.rlx _ he.1 q (nin _ q) _ (stps_fwd hi) (by simp [opn])
      have h3 : lenS x (far (E.getD i (0, 0)).1) (i, (E.getD i (0, 0)).1, (E.getD i (0, 0)).2, 0) = ((far (E.getD i (0, 0)).1).1 + (x (E.getD i (0, 0)).2 - x (E.getD i (0, 0)).1 - 1), (far (E.getD i (0, 0)).1).2 + 0) := rfl
      rw [h3] at h1
      unfold leD at h1
      simp only at h1
      omega
    · omega
  have sb : ∀ i, i < E.length → 0 < f i → min (far (E.getD i (0, 0)).1).1 near ≤ min (far (E.getD i (0, 0)).2).1 near := fun i hi hfi => by
    have he := h.fits.ends i hi
    by_cases q : (far (E.getD i (0, 0)).2).1 ≤ near
    · have h1 := k.rlx _ he.2 q (nin _ q) _ (stps_bck hi) (by simp [opn, hfi])
      have h3 : lenS x (far (E.getD i (0, 0)).2) (i, (E.getD i (0, 0)).2, (E.getD i (0, 0)).1, 1) = ((far (E.getD i (0, 0)).2).1 + 0, (far (E.getD i (0, 0)).2).2 + 1) := rfl
      rw [h3] at h1
      unfold leD at h1
      simp only at h1
      omega
    · omega
  refine ⟨by omega, ⟨⟨h.fits.ends, fun i hi => ?_, h.fits.nn, fun i hi hfi => ?_⟩, h.bal, by omega, by omega, fun v hv => ?_, fun v hv => ?_, fun v hv hl => ?_, fun v hv hl => ?_, h.tk0, h.tk1, h.fb⟩⟩
  · have := st i hi; (try simp only); omega
  · have := st i hi; have := sb i hi hfi; have := h.fits.ti i hi hfi; (try simp only); omega
  · have := h.hi v hv; have := f0 v hv; (try simp only); omega
  · have := h.lo v hv; (try simp only); omega
  · have := h.src v hv hl; have h2 := k.src v hv hl; (try simp only); rw [h2]; (try simp only); omega
  · have := h.dst v hv hl; have := k.dfc v hv hl; (try simp only); omega
end
end Go.Proofs.YtappfojjjegnpaaGreatDoor.DagM

namespace Go.Proofs.YtappfojjjegnpaaGreatDoor.DagM

/-- A step by which a way may go on. -/
def adm (x f : Nat → Int) (far : Nat → Dst) (s : Stp) : Bool := opn f s && decide (slk x s = 0) && decide ((far s.2.2.1).2 = (far s.2.1).2 + (s.2.2.2 : Int))
theorem adm_iff {x f : Nat → Int} {far : Nat → Dst} {s : Stp} : adm x f far s = true ↔ opn f s = true ∧ slk x s = 0 ∧ (far s.2.2.1).2 = (far s.2.1).2 + (s.2.2.2 : Int) := by
  unfold adm
  simp [and_assoc]
/-- Levels: nodes that are near have a step ahead of them by which a way comes there, or have something left themselves. -/
structure Lev (_E : EndL) (n : Nat) (_x _f lf : Nat → Int) (far : Nat → Dst) (_near : Int) : Prop where
  fin : ∀ v, v < n → far v ≠ infD → 0 ≤ (far v).2 ∧ (far v).2 ≤ n
  src : ∀ v, v < n → 0 < lf v → far v = (0, 0)
structure LevP (E : EndL) (n : Nat) (x f lf : Nat → Int) (far : Nat → Dst) (near : Int) : Prop where
  nr : ∃ t, t < n ∧ lf t < 0 ∧ (far t).1 ≤ near
  pre : ∀ v, v < n → (far v).1 ≤ near → 0 < lf v ∨ ∃ u, u < n ∧ (far u).1 ≤ near ∧ ∃ s ∈ stps E u, s.2.2.1 = v ∧ adm x f far s = true
def pot (n : Nat) (x : Nat → Int) (far : Nat → Dst) (v : Nat) : Int := (far v).2 * (4 * (n : Int) + 4) + (x v + 2 * (n : Int))
def deadN (E : EndL) (lf : Nat → Int) (tr : Nat → Nat) (u : Nat) : Prop := tr u = (stps E u).length ∧ 0 ≤ lf u
/-- All steps that were tried lead nowhere. -/
def DeadI (E : EndL) (n : Nat) (x f lf : Nat → Int) (far : Nat → Dst) (tr : Nat → Nat) : Prop := ∀ v, v < n → ∀ j, j < tr v → ∀ s, (stps E v)[j]? = some s → adm x f far s = true → deadN E lf tr s.2.2.1
section
variable {E : EndL} {n : Nat} {wt x0 x f lf : Nat → Int} {tot D tk near : Int} {far : Nat → Dst} {tr tr0 : Nat → Nat} {W : List Stp} {a v : Nat}
theorem Found.lev (k : Found E n x f lf far near) (hF : Fits E n x f) (hne : near ≠ 9223372036854775807) : Lev E n (fun v => x v - min (far v).1 near) f lf far near ∧ LevP E n (fun v => x v - min (far v).1 near) f lf far near := by
  have hn0 := k.n0
  have nin : ∀ v, (far v).1 ≤ near → far v ≠ infD := fun v hv e => by rw [e] at hv; simp only [infD] at hv; omega
  refine ⟨⟨fun v hv hf => by have := k.fin v hv hf; omega, k.src⟩, ?_, fun v hv hle => ?_⟩
  · rcases k.nr with e | ⟨t, h1, h2, h3, _⟩
    · exact absurd e hne
    · exact ⟨t, h1, h2, by omega⟩
  · rcases k.pre v hv (nin v hle) with ⟨h1, _⟩ | ⟨u, hu, huf, s, hs, h1, h2, h3⟩
    · exact Or.inl h1
    · obtain ⟨c1, c2, c3, c4, c5, c6, c7, c8⟩ := hF.step hs
      have e1 : (far v).1 = (far u).1 + slk x s := by rw [h3]; rfl
      have e2 : (far v).2 = (far u).2 + (s.2.2.2 : Int) := by rw [h3]; rfl
      refine Or.inr ⟨u, hu, by omega, s, hs, h1, adm_iff.2 ⟨h2, ?_, by rw [h1, c2]; exact e2⟩⟩
      rcases Nat.lt_or_ge 0 s.2.2.2 with q | q
      · simp [slk, q]
      · have q0 : s.2.2.2 = 0 := by omega
        have := (c7 q0).1
        rw [h1] at this
        simp only [slk, q0, Nat.lt_irrefl, if_false, h1, c2]
        omega
theorem adm_pot (hF : Fits E n x f) {u : Nat} {s : Stp} (hs : s ∈ stps E u) (ha : adm x f far s = true) : pot n x far u + 1 ≤ pot n x far s.2.2.1 ∧ ((far s.2.2.1).2 = (far u).2 ∨ (far s.2.2.1).2 = (far u).2 + 1) := by
  obtain ⟨c1, c2, c3, c4, c5, c6, c7, c8⟩ := hF.step hs
  obtain ⟨h1, h2, h3⟩ := adm_iff.1 ha
  rw [c2] at h3
  unfold pot
  rcases Nat.lt_or_ge 0 s.2.2.2 with q | q
  · have q1 : s.2.2.2 = 1 := by omega
    have := (c8 q1).2.2 h1
    rw [q1] at h3
    rw [h3, Int.add_mul, this]
    refine ⟨?_, Or.inr (by simp)⟩
    simp only [Int.natCast_one, Int.one_mul]
    omega
  · have q0 : s.2.2.2 = 0 := by omega
    have := (c7 q0).1
    rw [q0] at h3
    simp only [Int.natCast_zero, Int.add_zero] at h3
    rw [h3]
    refine ⟨by omega, Or.inl rfl⟩

/-- The k-th node of a way from a. -/
def nodeAt (a : Nat) (W : List Stp) : Nat → Nat
  | 0 => a
  | k + 1 => (W.getD k (0, 0, 0, 0)).2.2.1
theorem nodeAt_succ (a : Nat) (W : List Stp) (k : Nat) : nodeAt a W (k + 1) = (W.getD k (0, 0, 0, 0)).2.2.1 := rfl
theorem nodeAt_app (a : Nat) (W : List Stp) (s : Stp) : ∀ k, k ≤ W.length → nodeAt a (W ++ [s]) k = nodeAt a W k
  | 0, _ => rfl
  | k + 1, h => by
    rw [nodeAt_succ, nodeAt_succ, List.getD_eq_getElem?_getD, List.getD_eq_getElem?_getD, List.getElem?_append_left (by omega)]
/-- A way from a to v; each node's tried step is the way's. -/
structure Way (E : EndL) (n : Nat) (x f : Nat → Int) (far : Nat → Dst) (tr : Nat → Nat) (a : Nat) (W : List Stp) (v : Nat) : Prop where
  mem : ∀ s ∈ W, s ∈ stps E s.2.1 ∧ adm x f far s = true
  lnk : ∀ k (h : k < W.length), W[k].2.1 = nodeAt a W k
  fin : nodeAt a W W.length = v
  cur : ∀ s ∈ W, (stps E s.2.1)[tr s.2.1]? = some s
theorem Way.nil : Way E n x f far tr a [] a := ⟨by simp, fun k h => absurd h (by simp), rfl, by simp⟩
theorem Way.pots (h : Way E n x f far tr a W v) (hF : Fits E n x f) (i : Nat) : ∀ d, i + d ≤ W.length → pot n x far (nodeAt a W i) + (d : Int) ≤ pot n x far (nodeAt a W (i + d))
  | 0, _ => by simp
  | d + 1, hd => by
    have ih := Way.pots h hF i d (by omega)
    have hk : i + d < W.length := by omega
    have hm := h.mem W[i + d] (List.getElem_mem hk)
    have hp := (adm_pot hF hm.1 hm.2).1
    rw [h.lnk (i + d) hk] at hp
    have e : nodeAt a W (i + (d + 1)) = W[i + d].2.2.1 := by
      show nodeAt a W ((i + d) + 1) = _
      rw [nodeAt_succ, List.getD_eq_getElem?_getD, List.getElem?_eq_getElem hk]
      rfl
    rw [e]
    push_cast
    omega
/-- The nodes of a way are different ones. -/
theorem Way.apart (h : Way E n x f far tr a W v) (hF : Fits E n x f) {i j : Nat} (hi : i < j) (hj : j ≤ W.length) : nodeAt a W i ≠ nodeAt a W j := by
  intro e
  have := h.pots hF i (j - i) (by omega)
  rw [show i + (j - i) = j by omega, ← e] at this
  omega
theorem Way.apartF (h : Way E n x f far tr a W v) (hF : Fits E n x f) {i j : Nat} (hi : i < W.length) (hj : j < W.length) (e : W[i].2.1 = W[j].2.1) : i = j := by
  rw [h.lnk i hi, h.lnk j hj] at e
  rcases Nat.lt_trichotomy i j with k | k | k
  · exact absurd e (h.apart hF k (by omega))
  · exact k
  · exact absurd e.symm (h.apart hF k (by omega))
theorem Way.off (h : Way E n x f far tr a W v) (hF : Fits E n x f) : ∀ s ∈ W, s.2.1 ≠ v := by
  intro s hs
  obtain ⟨k, hk, rfl⟩ := List.mem_iff_getElem.1 hs
  rw [h.lnk k hk, ← h.fin]
  exact h.apart hF hk (Nat.le_refl _)
theorem Way.len (h : Way E n x f far tr a W v) (hF : Fits E n x f) : pot n x far a + (W.length : Int) ≤ pot n x far v := by
  have := h.pots hF 0 W.length (by omega)
  rw [Nat.zero_add, h.fin] at this
  exact this
theorem Way.push (h : Way E n x f far tr a W v) (hF : Fits E n x f) {t : Nat} {s : Stp} (hs : (stps E v)[t]? = some s) (ha : adm x f far s = true) : Way E n x f far (fun u => if u = v then t else tr u) a (W ++ [s]) s.2.2.1 := by
  have hm : s ∈ stps E v := List.mem_of_getElem? hs
  have hv : s.2.1 = v := (hF.step hm).2.1
  have hoff := h.off hF
  refine ⟨fun s' hs' => ?_, fun k hk => ?_, ?_, fun s' hs' => ?_⟩
  · rcases List.mem_append.1 hs' with k | k
    · exact h.mem s' k
    · simp at k
      subst k
      exact ⟨by rw [hv]; exact hm, ha⟩
  · simp only [List.length_append, List.length_cons, List.length_nil] at hk
    rw [nodeAt_app a W s k (by omega)]
    by_cases e : k < W.length
    · rw [List.getElem_append_left e]
      exact h.lnk k e
    · have : k = W.length := by omega
      subst this
      rw [h.fin]
      simpa using hv
  · simp [nodeAt]
  · rcases List.mem_append.1 hs' with k | k
    · rw [if_neg (hoff s' k)]
      exact h.cur s' k
    · simp at k
      subst k
      rw [hv, if_pos rfl]
      exact hs
theorem Way.stay (h : Way E n x f far tr a W v) (hF : Fits E n x f) (t : Nat) : Way E n x f far (fun u => if u = v then t else tr u) a W v :=
  ⟨h.mem, h.lnk, h.fin, fun s hs => by rw [if_neg (h.off hF s hs)]; exact h.cur s hs⟩
/-- A step back: the last step is taken away. -/
theorem Way.pop {s : Stp} (h : Way E n x f far tr a (W ++ [s]) v) (hF : Fits E n x f) : s.2.2.1 = v ∧ (stps E s.2.1)[tr s.2.1]? = some s ∧ adm x f far s = true ∧ s ∈ stps E s.2.1 ∧ Way E n x f far (fun u => if u = s.2.1 then tr s.2.1 + 1 else tr u) a W s.2.1 := by
  have hs : s ∈ W ++ [s] := by simp
  have hW : Way E n x f far tr a W s.2.1 := by
    refine ⟨fun s' k => h.mem s' (by simp [k]), fun k hk => ?_, ?_, fun s' k => h.cur s' (by simp [k])⟩
    · have := h.lnk k (by simp; omega)
      rw [nodeAt_app a W s k (by omega), List.getElem_append_left hk] at this
      exact this
    · have := h.lnk W.length (by simp)
      rw [nodeAt_app a W s _ (Nat.le_refl _)] at this
      simpa using this.symm
  refine ⟨?_, h.cur s hs, (h.mem s hs).2, (h.mem s hs).1, hW.stay hF _⟩
  have := h.fin
  simp [nodeAt] at this
  exact this

/-- Where find stands. -/
structure FindI (E : EndL) (n : Nat) (x f lf : Nat → Int) (far : Nat → Dst) (tr0 tr : Nat → Nat) (a : Nat) (W : List Stp) (v : Nat) : Prop where
  way : Way E n x f far tr a W v
  vn : v < n
  fv : far v ≠ infD
  le : ∀ u, u < n → tr u ≤ (stps E u).length
  dead : DeadI E n x f lf far tr0 → DeadI E n x f lf far tr
theorem Lev.to (hF : Fits E n x f) (hn : n ≤ 4096) (hl : Lev E n x f lf far near) {u : Nat} {s : Stp} (hu : u < n) (hs : s ∈ stps E u) (ha : adm x f far s = true) : far u ≠ infD ↔ far s.2.2.1 ≠ infD := by
  obtain ⟨c1, c2, c3, c4, c5, _⟩ := hF.step hs
  obtain ⟨_, _, h3⟩ := adm_iff.1 ha
  rw [c2] at h3
  constructor
  · intro h e
    have := hl.fin u hu h
    rw [e] at h3
    simp only [infD] at h3
    omega
  · intro h e
    have := hl.fin s.2.2.1 c4 h
    rw [e] at h3
    simp only [infD] at h3
    omega
theorem FindI.start (hl : Lev E n x f lf far near) (ha : a < n) (hs : 0 < lf a) (hle : ∀ u, u < n → tr u ≤ (stps E u).length) : FindI E n x f lf far tr tr a [] a :=
  ⟨Way.nil, ha, by rw [hl.src a ha hs]; simp [infD], hle, id⟩
/-- Steps that may not be taken are passed over. -/
theorem DeadI.over (h : DeadI E n x f lf far tr) (hv : v < n) {t : Nat} (hno : ∀ i, tr v ≤ i → i < t → ∀ s, (stps E v)[i]? = some s → adm x f far s = false) (hle : tr v ≤ t) (ht : t ≤ (stps E v).length) : DeadI E n x f lf far (fun u => if u = v then t else tr u) := by
  have up : ∀ u, deadN E lf tr u → deadN E lf (fun u => if u = v then t else tr u) u := fun u hd => by
    refine ⟨?_, hd.2⟩
    by_cases e : u = v
    · subst e
      simp only [if_true]
      have := hd.1
      omega
    · simp only [if_neg e]; exact hd.1
  intro u hu j hj s hs ha
  by_cases e : u = v
  · subst e
    simp only [if_true] at hj
    by_cases k : j < tr u
    · exact up _ (h u hu j k s hs ha)
    · have := hno j (by omega) hj s hs
      rw [this] at ha; cases ha
  · simp only [if_neg e] at hj
    exact up _ (h u hu j hj s hs ha)
theorem FindI.found (hF : Fits E n x f) (hn : n ≤ 4096) (hl : Lev E n x f lf far near) (h : FindI E n x f lf far tr0 tr a W v) {t : Nat} {s : Stp} (hs : (stps E v)[t]? = some s) (ha : adm x f far s = true) (hle : tr v ≤ t)
    (hno : ∀ i, tr v ≤ i → i < t → ∀ s, (stps E v)[i]? = some s → adm x f far s = false) : FindI E n x f lf far tr0 (fun u => if u = v then t else tr u) a (W ++ [s]) s.2.2.1 := by
  have ht : t < (stps E v).length := (List.getElem?_eq_some_iff.1 hs).1
  have hm : s ∈ stps E v := List.mem_of_getElem? hs
  refine ⟨h.way.push hF hs ha, (hF.step hm).2.2.2.1, (Lev.to hF hn hl h.vn hm ha).1 h.fv, fun u hu => ?_, fun k => (h.dead k).over h.vn hno hle (by omega)⟩
  by_cases e : u = v
  · subst e; simp only [if_true]; omega
  · simp only [if_neg e]; exact h.le u hu
theorem FindI.none (hF : Fits E n x f) (h : FindI E n x f lf far tr0 tr a W v) (hno : ∀ i, tr v ≤ i → i < (stps E v).length → ∀ s, (stps E v)[i]? = some s → adm x f far s = false) : FindI E n x f lf far tr0 (fun u => if u = v then (stps E v).length else tr u) a W v := by
  refine ⟨h.way.stay hF _, h.vn, h.fv, fun u hu => ?_, fun k => (h.dead k).over h.vn hno (h.le v h.vn) (Nat.le_refl _)⟩
  by_cases e : u = v
  · subst e; simp
  · simp only [if_neg e]; exact h.le u hu
theorem FindI.pop {s : Stp} (hF : Fits E n x f) (hn : n ≤ 4096) (hl : Lev E n x f lf far near) (h : FindI E n x f lf far tr0 tr a (W ++ [s]) v) (hv : tr v = (stps E v).length) (h0 : 0 ≤ lf v) :
    tr s.2.1 < (stps E s.2.1).length ∧ s.2.1 < n ∧ FindI E n x f lf far tr0 (fun u => if u = s.2.1 then tr s.2.1 + 1 else tr u) a W s.2.1 := by
  obtain ⟨e1, e2, e3, e4, e5⟩ := h.way.pop hF
  have hlt : tr s.2.1 < (stps E s.2.1).length := (List.getElem?_eq_some_iff.1 e2).1
  have hsn : s.2.1 < n := (hF.step e4).2.2.1
  have hne : s.2.1 ≠ v := h.way.off hF s (by simp)
  refine ⟨hlt, hsn, e5, hsn, (Lev.to hF hn hl hsn e4 e3).2 (by rw [e1]; exact h.fv), fun u hu => ?_, fun k => ?_⟩
  · by_cases e : u = s.2.1
    · subst e; simp only [if_true]; omega
    · simp only [if_neg e]; exact h.le u hu
  · have hd := h.dead k
    have up : ∀ u, deadN E lf tr u → deadN E lf (fun u => if u = s.2.1 then tr s.2.1 + 1 else tr u) u := fun u q => by
      refine ⟨?_, q.2⟩
      by_cases e : u = s.2.1
      · subst e; have := q.1; omega
      · simp only [if_neg e]; exact q.1
    intro u hu j hj s' hs' ha
    by_cases e : u = s.2.1
    · subst e
      simp only [if_true] at hj
      by_cases q : j < tr s.2.1
      · exact up _ (hd s.2.1 hu j q s' hs' ha)
      · have : j = tr s.2.1 := by omega
        subst this
        rw [e2] at hs'
        simp only [Option.some.injEq] at hs'
        subst hs'
        rw [e1]
        exact up _ ⟨hv, h0⟩
    · simp only [if_neg e] at hj
      exact up _ (hd u hu j hj s' hs' ha)
/-- If all that have something left lead nowhere, nothing does: but something is near. -/
theorem dead_no (hF : Fits E n x f) (hx : ∀ v, v < n → -(2 * (n : Int)) ≤ x v) (hn : n ≤ 4096) (hl : Lev E n x f lf far near) (hp : LevP E n x f lf far near) (hnr : near < 9223372036854775807) (hd : DeadI E n x f lf far tr) (hs : ∀ v, v < n → 0 < lf v → deadN E lf tr v) : False := by
  have nin : ∀ v, (far v).1 ≤ near → far v ≠ infD := fun v hv e => by rw [e] at hv; simp only [infD] at hv; omega
  have p0 : ∀ v, v < n → (far v).1 ≤ near → 0 ≤ pot n x far v := fun v hv hle => by
    have h1 := (hl.fin v hv (nin v hle)).1
    have h2 := hx v hv
    have h3 : 0 ≤ (far v).2 * (4 * (n : Int) + 4) := Int.mul_nonneg h1 (by omega)
    unfold pot
    omega
  have go : ∀ (m : Nat) v, v < n → (far v).1 ≤ near → pot n x far v ≤ m → deadN E lf tr v := by
    intro m
    induction m with
    | zero =>
      intro v hv hle hpo
      rcases hp.pre v hv hle with h | ⟨u, hu, hule, s, hs', h1, h2⟩
      · exact hs v hv h
      · have := (adm_pot hF hs' h2).1
        rw [h1] at this
        have := p0 u hu hule
        omega
    | succ m ih =>
      intro v hv hle hpo
      rcases hp.pre v hv hle with h | ⟨u, hu, hule, s, hs', h1, h2⟩
      · exact hs v hv h
      · have h3 := (adm_pot hF hs' h2).1
        rw [h1] at h3
        have h4 := ih u hu hule (by push_cast at hpo; omega)
        obtain ⟨j, hj, rfl⟩ := List.mem_iff_getElem.1 hs'
        have h5 := hd u hu j (by rw [h4.1]; exact hj) _ (List.getElem?_eq_getElem hj) h2
        rw [h1] at h5
        exact h5
  obtain ⟨t, ht, hlt, hle⟩ := hp.nr
  have := go (pot n x far t).toNat t ht hle (by have := p0 t ht hle; omega)
  have := this.2
  omega
theorem pot_near (g : n ≤ 4096) (hx : ∀ v, v < n → -(2 * (n : Int)) ≤ x v ∧ x v ≤ n) (hl : Lev E n x f lf far near) (hv : v < n) (hf : far v ≠ infD) : 0 ≤ pot n x far v ∧ pot n x far v ≤ 80000000 := by
  obtain ⟨h1, h2⟩ := hl.fin v hv hf
  have h3 := hx v hv
  have h4 : 0 ≤ (far v).2 * (4 * (n : Int) + 4) := Int.mul_nonneg h1 (by omega)
  have h5 : (far v).2 * (4 * (n : Int) + 4) ≤ 4096 * 16388 := Int.mul_le_mul (by omega) (by omega) (by omega) (by omega)
  unfold pot
  omega

/-! What flows along a way. -/
/-- Behind the first k steps. -/
structure Took (E : EndL) (n : Nat) (x f0 f : Nat → Int) (much : Int) (a : Nat) (W : List Stp) (k : Nat) : Prop where
  fits : Fits E n x f
  net : ∀ v, netE E f v = netE E f0 v + ((if v = a then much else 0) - (if v = nodeAt a W k then much else 0))
  up : ∀ i, i < E.length → f i ≤ f0 i + much
  bk : ∀ j (h : j < W.length), k ≤ j → (W[j].2.2.2 = 1 → f0 W[j].1 ≤ f W[j].1) ∧ (W[j].2.2.2 = 0 → f W[j].1 ≤ f0 W[j].1)
theorem Took.start {much : Int} (hF : Fits E n x f) (h0 : 0 ≤ much) : Took E n x f f much a W 0 :=
  ⟨hF, fun v => by simp [nodeAt]; omega, fun i _ => by omega, fun _ _ _ => ⟨fun _ => Int.le_refl _, fun _ => Int.le_refl _⟩⟩
theorem Took.step {f0 : Nat → Int} {much : Int} {k : Nat} (hF0 : Fits E n x f0) (hW : Way E n x f0 far tr a W v) (hm : 0 < much) (hb : ∀ s ∈ W, s.2.2.2 = 1 → much ≤ f0 s.1) (h : Took E n x f0 f much a W k) (hk : k < W.length) :
    Took E n x f0 (fun i => if i = W[k].1 then (if W[k].2.2.2 = 0 then f W[k].1 + much else f W[k].1 - much) else f i) much a W (k + 1) := by
  have hs := List.getElem_mem hk
  obtain ⟨hmem, hadm⟩ := hW.mem _ hs
  have hl := hW.lnk k hk
  have hbk := h.bk k hk (Nat.le_refl _)
  have hnx : nodeAt a W (k + 1) = W[k].2.2.1 := by
    rw [nodeAt_succ, List.getD_eq_getElem?_getD, List.getElem?_eq_getElem hk]
    rfl
  have later : ∀ j (hj : j < W.length), k + 1 ≤ j → W[j].1 = W[k].1 → W[j].2.2.2 ≠ W[k].2.2.2 := fun j hj hkj e1 e2 => by
    have hmj := (hW.mem _ (List.getElem_mem hj)).1
    obtain ⟨d1, d2, d3, d4, d5, d6, d7, d8⟩ := hF0.step hmj
    obtain ⟨c1, c2, c3, c4, c5, c6, c7, c8⟩ := hF0.step hmem
    have : W[j].2.1 = W[k].2.1 := by
      rcases Nat.lt_or_ge 0 W[k].2.2.2 with q | q
      · have q1 : W[k].2.2.2 = 1 := by omega
        have a1 := (c8 q1).2.1
        have a2 := (d8 (by omega)).2.1
        rw [e1, a1] at a2
        simp only [Prod.mk.injEq] at a2
        exact a2.2.symm
      · have q1 : W[k].2.2.2 = 0 := by omega
        have a1 := (c7 q1).2
        have a2 := (d7 (by omega)).2
        rw [e1, a1] at a2
        simp only [Prod.mk.injEq] at a2
        exact a2.1.symm
    have := hW.apartF hF0 hj hk this
    omega
  have hbs := hb _ hs
  have hnet := h.net
  rw [← hl] at hnet
  obtain ⟨c1, c2, c3, c4, c5, c6, c7, c8⟩ := hF0.step hmem
  obtain ⟨o1, o2, _⟩ := adm_iff.1 hadm
  have hti := hF0.ti W[k].1 c1
  have hup := h.up W[k].1 c1
  have hnn := h.fits.nn W[k].1 c1
  rcases Nat.lt_or_ge 0 W[k].2.2.2 with q | q
  · have q1 : W[k].2.2.2 = 1 := by omega
    have q0 : ¬ W[k].2.2.2 = 0 := by omega
    simp only [if_neg q0]
    have hge := hbk.1 q1
    have hbb := hbs q1
    obtain ⟨_, hE, _⟩ := c8 q1
    have htx := hti (by omega)
    rw [hE] at htx
    simp only at htx
    refine ⟨⟨hF0.ends, hF0.fit, fun i hi => ?_, fun i hi hfi => ?_⟩, fun v => ?_, fun i hi => ?_, fun j hj hkj => ?_⟩
    · by_cases e : i = W[k].1
      · subst e; simp only [if_true]; omega
      · simp only [if_neg e]; exact h.fits.nn i hi
    · by_cases e : i = W[k].1
      · subst e; rw [hE]; exact htx
      · simp only [if_neg e] at hfi; exact h.fits.ti i hi hfi
    · have hu := netK_upd E f W[k].1 (f W[k].1 - much) v E.length
      rw [if_pos c1] at hu
      unfold netE at hnet ⊢
      rw [hu, hnet v, hE, hnx]
      simp only
      by_cases e1 : W[k].2.2.1 = v
      · by_cases e2 : W[k].2.1 = v
        · have := hW.off hF0
          rw [if_pos e1, if_pos e2, if_pos e2.symm, if_pos e1.symm]; omega
        · have e3 : ¬ v = W[k].2.1 := fun e => e2 e.symm
          rw [if_pos e1, if_neg e2, if_neg e3, if_pos e1.symm]; omega
      · have e4 : ¬ v = W[k].2.2.1 := fun e => e1 e.symm
        by_cases e2 : W[k].2.1 = v
        · rw [if_neg e1, if_pos e2, if_pos e2.symm, if_neg e4]; omega
        · have e3 : ¬ v = W[k].2.1 := fun e => e2 e.symm
          rw [if_neg e1, if_neg e2, if_neg e3, if_neg e4]; omega
    · by_cases e : i = W[k].1
      · subst e; simp only [if_true]; omega
      · simp only [if_neg e]; exact h.up i hi
    · have hb2 := h.bk j hj (by omega)
      by_cases e : W[j].1 = W[k].1
      · have hl2 := later j hj hkj e
        rw [e] at hb2 ⊢
        simp only [if_true]
        refine ⟨fun e2 => absurd (e2.trans q1.symm) hl2, fun e2 => ?_⟩
        have := hb2.2 e2
        omega
      · simp only [if_neg e]
        exact hb2
  · have q0 : W[k].2.2.2 = 0 := by omega
    simp only [if_pos q0]
    have hle := hbk.2 q0
    obtain ⟨hsl, hE⟩ := c7 q0
    rw [o2] at hsl
    refine ⟨⟨hF0.ends, hF0.fit, fun i hi => ?_, fun i hi hfi => ?_⟩, fun v => ?_, fun i hi => ?_, fun j hj hkj => ?_⟩
    · by_cases e : i = W[k].1
      · subst e; simp only [if_true]; omega
      · simp only [if_neg e]; exact h.fits.nn i hi
    · by_cases e : i = W[k].1
      · subst e; rw [hE]; simp only; omega
      · simp only [if_neg e] at hfi; exact h.fits.ti i hi hfi
    · have hu := netK_upd E f W[k].1 (f W[k].1 + much) v E.length
      rw [if_pos c1] at hu
      unfold netE at hnet ⊢
      rw [hu, hnet v, hE, hnx]
      simp only
      by_cases e1 : W[k].2.2.1 = v
      · by_cases e2 : W[k].2.1 = v
        · rw [if_pos e1, if_pos e2, if_pos e2.symm, if_pos e1.symm]; omega
        · have e3 : ¬ v = W[k].2.1 := fun e => e2 e.symm
          rw [if_pos e1, if_neg e2, if_neg e3, if_pos e1.symm]; omega
      · have e4 : ¬ v = W[k].2.2.1 := fun e => e1 e.symm
        by_cases e2 : W[k].2.1 = v
        · rw [if_neg e1, if_pos e2, if_pos e2.symm, if_neg e4]; omega
        · have e3 : ¬ v = W[k].2.1 := fun e => e2 e.symm
          rw [if_neg e1, if_neg e2, if_neg e3, if_neg e4]; omega
    · by_cases e : i = W[k].1
      · subst e; simp only [if_true]; omega
      · simp only [if_neg e]; exact h.up i hi
    · have hb2 := h.bk j hj (by omega)
      by_cases e : W[j].1 = W[k].1
      · have hl2 := later j hj hkj e
        rw [e] at hb2 ⊢
        simp only [if_true]
        refine ⟨fun e2 => ?_, fun e2 => absurd (e2.trans q0.symm) hl2⟩
        have := hb2.1 e2
        omega
      · simp only [if_neg e]
        exact hb2
/-- A way was taken. -/
theorem Net.take (h : Net E n wt x0 tot x f lf D tk) {f' : Nat → Int} {much : Int} {b : Nat} (hT : Took E n x f f' much a W W.length) (hb : nodeAt a W W.length = b) (ha : a < n) (hbn : b < n) (hm : 0 < much) (h1 : much ≤ lf a) (h2 : much ≤ - lf b) :
    Net E n wt x0 tot x f' (fun v => if v = b then lf b + much else if v = a then lf a - much else lf v) D (tk + 1) ∧
      sumK (fun v => max 0 (if v = b then lf b + much else if v = a then lf a - much else lf v)) n = sumK (fun v => max 0 (lf v)) n - much := by
  have hab : a ≠ b := fun e => by subst e; omega
  have hsum : sumK (fun v => max 0 (if v = b then lf b + much else if v = a then lf a - much else lf v)) n = sumK (fun v => max 0 (lf v)) n - much := by
    have e1 : sumK (fun v => max 0 (if v = b then lf b + much else if v = a then lf a - much else lf v)) n = sumK (fun v => if v = a then (lf a - much) else (fun v => max 0 (lf v)) v) n := by
      refine sumK_congr n fun v _ => ?_
      by_cases e : v = b
      · subst e; simp only [if_true, if_neg (Ne.symm hab)]; omega
      · by_cases e2 : v = a
        · subst e2; simp only [if_true, if_neg e]; omega
        · simp only [if_neg e, if_neg e2]
    rw [e1, sumK_upd, if_pos ha]
    (try simp only)
    omega
  refine ⟨⟨hT.fits, fun v hv => ?_, h.d0, h.d1, h.hi, h.lo, fun v hv hl => ?_, fun v hv hl => ?_, by have := h.tk0; omega, ?_, fun i hi => ?_⟩, hsum⟩
  · have hB := h.bal v hv
    have hn := hT.net v
    rw [hb] at hn
    (try simp only)
    by_cases e : v = b
    · subst e
      rw [if_neg (Ne.symm hab), if_pos rfl] at hn
      rw [if_pos rfl]; omega
    · by_cases e2 : v = a
      · subst e2
        rw [if_pos rfl, if_neg e] at hn
        rw [if_neg e, if_pos rfl]; omega
      · rw [if_neg e2, if_neg e] at hn
        rw [if_neg e, if_neg e2]; omega
  · (try simp only at hl)
    by_cases e : v = b
    · subst e; rw [if_pos rfl] at hl; omega
    · by_cases e2 : v = a
      · subst e2; exact h.src v hv (by omega)
      · rw [if_neg e, if_neg e2] at hl; exact h.src v hv hl
  · (try simp only at hl)
    by_cases e : v = b
    · subst e; exact h.dst v hv (by omega)
    · by_cases e2 : v = a
      · subst e2; rw [if_neg e, if_pos rfl] at hl; omega
      · rw [if_neg e, if_neg e2] at hl; exact h.dst v hv hl
  · rw [hsum]; have := h.tk1; omega
  · rw [hsum]; have := h.fb i hi; have := hT.up i hi; omega
theorem Net.lfb (h : Net E n wt x0 tot x f lf D tk) (g : Dag E n wt x0 tot) {v : Nat} (hv : v < n) : -100000000000000 ≤ lf v ∧ lf v ≤ 100000000000000 := by
  have e := bal_dot h.fits.ends h.bal (fun _ => 1)
  have z : sumK (fun i => (wt i - f i) * ((fun _ => (1 : Int)) (E.getD i (0, 0)).1 - (fun _ => (1 : Int)) (E.getD i (0, 0)).2)) E.length = 0 := by
    refine (sumK_congr _ (fun i _ => ?_)).trans (sumK_zero E.length)
    simp
  rw [z] at e
  have h2 : sumK (fun v => (fun _ => (1 : Int)) v * lf v) n = sumK lf n := sumK_congr n (fun v _ => by simp)
  rw [h2] at e
  have h1 := sumK_ge (g := fun v => max 0 (lf v) - lf v) n (fun v _ => by (try simp only); omega) v hv
  rw [sumK_sub (fun v => max 0 (lf v)) lf, e] at h1
  have h3 := sumK_ge (g := fun v => max 0 (lf v)) n (fun v _ => by (try simp only); omega) v hv
  have h4 := h.tk1
  have h5 := h.tk0
  have h6 := g.tot
  (try simp only at h1 h3)
  omega
theorem Net.tkb (h : Net E n wt x0 tot x f lf D tk) (g : Dag E n wt x0 tot) : 0 ≤ tk ∧ tk ≤ 100000000000000 := by
  have h1 := h.tk0
  have h2 := h.tk1
  have h3 := h.pos0
  have h4 := g.tot
  omega
end
end Go.Proofs.YtappfojjjegnpaaGreatDoor.DagM

namespace Go.Proofs.YtappfojjjegnpaaGreatDoor.DagM

def wtL (L : List Arc) (i : Nat) : Int := (L.getD i (0, 0, 0)).2.2
def listI (n : Nat) (x : Nat → Int) : List Int := (List.range n).map x
section
variable {n : Nat} {L : List Arc} {f x : Nat → Int}
theorem ends_at {i : Nat} (h : i < L.length) : (ends L).getD i (0, 0) = (L[i].1.toNat, L[i].2.1.toNat) := by
  unfold ends
  rw [List.getD_eq_getElem?_getD, List.getElem?_map, List.getElem?_eq_getElem h]
  rfl
theorem netK_list (hM : May n L) (fl : List Int) (hl : fl.length = L.length) (hf : ∀ i (h : i < fl.length), fl[i] = f i) (v : Nat) : ∀ k, k ≤ L.length → netF (L.take k) (fl.take k) v = netK (ends L) f k v
  | 0, _ => by simp [netF, netK]
  | k + 1, h => by
    have hk : k < L.length := by omega
    rw [netF_take L fl k hk (by omega), netK_list hM fl hl hf v k (by omega)]
    rw [show netK (ends L) f (k + 1) v = netK (ends L) f k v + ((if ((ends L).getD k (0, 0)).1 = v then f k else 0) - (if ((ends L).getD k (0, 0)).2 = v then f k else 0)) from rfl, ends_at hk, hf k (by omega)]
    have ok := hM.ok L[k] (List.getElem_mem hk)
    have e1 : (L[k].1 = (v : Int)) ↔ L[k].1.toNat = v := by omega
    have e2 : (L[k].2.1 = (v : Int)) ↔ L[k].2.1.toNat = v := by omega
    unfold netP
    simp only [e1, e2]
theorem net_list (hM : May n L) (v : Nat) : netF L (listI L.length f) v = netE (ends L) f v := by
  have h := netK_list (f := f) hM (listI L.length f) (by simp [listI]) (fun i h => by simp [listI]) v L.length (Nat.le_refl _)
  rw [List.take_length, List.take_of_length_le (by simp [listI])] at h
  rw [h]
  unfold netE ends
  rw [List.length_map]
theorem sup_list (hM : May n L) (v : Nat) : supF L v = netE (ends L) (wtL L) v := by
  have h := netK_list (f := wtL L) hM (wts L) (by simp [wts]) (fun i h => by
    have : i < L.length := by simpa [wts] using h
    simp [wts, wtL, List.getD_eq_getElem?_getD, this]) v L.length (Nat.le_refl _)
  rw [List.take_length, List.take_of_length_le (by simp [wts])] at h
  unfold supF
  rw [h]
  unfold netE ends
  rw [List.length_map]
theorem sumK_list (g : Nat → Int) : ∀ n, ((List.range n).map g).sum = sumK g n
  | 0 => rfl
  | n + 1 => by rw [List.range_succ, List.map_append, List.sum_append, sumK_list g n]; simp [sumK]
theorem tot_list : totF n L = sumK (fun v => max 0 (supF L v)) n := sumK_list _ _
theorem val_list {i : Int} (h0 : 0 ≤ i) (h : i < n) : val (listI n x) i = x i.toNat := by
  have : i.toNat < n := by omega
  simp [val, listI, List.getD_eq_getElem?_getD, this]

/-! Ranks are their own ranks. -/
theorem rk_at (x : List Int) (j : Nat) (h : j < (unlike x).length) : rk x (unlike x)[j] = j := by
  have hp := unlike_lt x
  unfold rk
  generalize unlike x = u at *
  rw [List.pairwise_iff_getElem] at hp
  have h1 : (u.take j).countP (· < u[j]) = j := by
    rw [List.countP_eq_length.2 (fun a ha => by
      obtain ⟨i, hi, rfl⟩ := List.mem_iff_getElem.1 ha
      simp only [List.length_take] at hi
      rw [List.getElem_take]
      simpa using hp i j (by omega) h (by omega))]
    simp; omega
  have h2 : (u.drop j).countP (· < u[j]) = 0 := by
    rw [List.countP_eq_zero]
    intro a ha
    obtain ⟨i, hi, rfl⟩ := List.mem_iff_getElem.1 ha
    rw [List.getElem_drop]
    simp only [List.length_drop] at hi
    by_cases q : i = 0
    · subst q; simp
    · have := hp j (j + i) h (by omega) (by omega)
      simp; omega
  have e := congrArg (List.countP (· < u[j])) (List.take_append_drop j u)
  rw [List.countP_append] at e
  omega
theorem rk_lt_len {x : List Int} {a : Int} (ha : a ∈ x) : rk x a < (unlike x).length := by
  unfold rk
  rcases Nat.lt_or_ge ((unlike x).countP (· < a)) (unlike x).length with h | h
  · exact h
  · have := List.countP_eq_length.1 (Nat.le_antisymm List.countP_le_length h) a (mem_unlike.2 ha)
    simp at this
theorem rk_idem (x : List Int) : castI (rkL (castI (rkL x))) = castI (rkL x) := by
  have key : ∀ a ∈ x, rk (castI (rkL x)) (rk x a : Int) = rk x a := by
    intro a ha
    have h := rk_of (x := castI (rkL x)) (l := castI (List.range (rk x a))) (v := (rk x a : Int)) (by
      unfold castI
      have h1 : (List.range (rk x a)).Nodup := List.nodup_range
      unfold List.Nodup at h1 ⊢
      rw [List.pairwise_map]
      exact h1.imp fun {a b} hab e => hab (by omega)) (fun y => by
      constructor
      · intro hy
        obtain ⟨j, hj, rfl⟩ := List.mem_map.1 hy
        have hj' : j < rk x a := by simpa using hj
        have hj2 : j < (unlike x).length := Nat.lt_trans hj' (rk_lt_len ha)
        refine ⟨List.mem_map.2 ⟨j, List.mem_map.2 ⟨(unlike x)[j], mem_unlike.1 (List.getElem_mem hj2), rk_at x j hj2⟩, rfl⟩, by omega⟩
      · intro ⟨hy, hlt⟩
        obtain ⟨j, hj, rfl⟩ := List.mem_map.1 hy
        exact List.mem_map.2 ⟨j, by simp; omega, rfl⟩)
    rw [← h]
    simp [castI]
  have e : ∀ y ∈ castI (rkL x), ((rk (castI (rkL x)) y : Nat) : Int) = y := by
    intro y hy
    obtain ⟨j, hj, rfl⟩ := List.mem_map.1 hy
    obtain ⟨a, ha, rfl⟩ := List.mem_map.1 hj
    exact congrArg _ (key a ha)
  generalize castI (rkL x) = r at e ⊢
  unfold castI rkL
  rw [List.map_map]
  conv => rhs; rw [← List.map_id r]
  exact List.map_congr_left e
theorem rk_step {x : List Int} {a b : Int} (ha : a ∈ x) (h : b = a + 1) : (rk x b : Int) = rk x a + 1 := by
  have h1 := rk_lt ha (show a < b by omega)
  have h2 := rk_near (x := x) (show a ≤ b by omega)
  omega

/-- At the start nothing flows. -/
theorem Net.start {x0 : Nat → Int} (hM : May n L) (hx : ∀ v, v < n → 0 ≤ x0 v ∧ x0 v ≤ n) (hf : ∀ i, i < (ends L).length → x0 ((ends L).getD i (0, 0)).1 + 1 ≤ x0 ((ends L).getD i (0, 0)).2) :
    Dag (ends L) n (wtL L) x0 (totF n L) ∧ Net (ends L) n (wtL L) x0 (totF n L) x0 (fun _ => 0) (fun v => supF L v) 0 0 := by
  have hel : (ends L).length = L.length := by simp [ends]
  have hn := hM.n1
  have hl := hM.len
  have hnet0 : ∀ m v, netK (ends L) (fun _ => 0) m v = 0 := by
    intro m v
    induction m with
    | zero => rfl
    | succ m ih => simp [netK, ih]
  have ht1 : 0 ≤ totF n L := by
    rw [tot_list]
    have := sumK_le (g := fun _ => 0) (h := fun v => max 0 (supF L v)) n (fun v _ => by (try simp only); omega)
    rw [sumK_zero] at this
    exact this
  have ht2 : totF n L ≤ 16384000000 * (n : Int) := by
    rw [tot_list]
    have : ∀ m : Nat, sumK (fun v => max 0 (supF L v)) m ≤ 16384000000 * (m : Int) := by
      intro m
      induction m with
      | zero => simp [sumK]
      | succ m ih =>
        have h1 := sup_near hM L.length m
        rw [List.take_length] at h1
        simp only [sumK]
        push_cast
        omega
    exact this n
  refine ⟨⟨by omega, by rw [hel]; omega, fun i hi => ?_, hx, ht1, by omega⟩, ⟨⟨fun i hi => ?_, hf, fun i _ => Int.le_refl _, fun i _ h => absurd h (by omega)⟩, fun v hv => ?_, Int.le_refl _, by omega, fun v _ => Int.le_refl _, fun v _ => by omega, fun v _ _ => rfl, fun v _ _ => by omega, Int.le_refl _, ?_, fun i _ => ?_⟩⟩
  · rw [hel] at hi
    have := hM.ok L[i] (List.getElem_mem hi)
    simp [wtL, List.getD_eq_getElem?_getD, hi]
    omega
  · rw [hel] at hi
    have := hM.ok L[i] (List.getElem_mem hi)
    rw [ends_at hi]
    simp only
    omega
  · unfold netE
    rw [hnet0]
    have := sup_list hM v
    unfold netE at this
    omega
  · rw [tot_list]; omega
  · rw [tot_list]; omega
end
end Go.Proofs.YtappfojjjegnpaaGreatDoor.DagM
