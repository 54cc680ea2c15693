/-
  Graphs in plain mathematics: which arcs may be, what comes next, the order; what is missing of a node; that order by a heap. Conditions: none.
-/
import Derived.Test.YtkloaekmjnbacaaHeapM
namespace Go.Proofs.Ytkloaekmjnbacaa.DagM

abbrev Arc := Int × Int × Int
def badA (n : Int) (a : Arc) : Bool := !(decide (0 ≤ a.1) && decide (a.1 < n)) || !(decide (0 ≤ a.2.1) && decide (a.2.1 < n)) || decide (a.2.2 < 0) || decide (1000000 < a.2.2)
def mayB (n : Int) (L : List Arc) : Bool := !decide (n < 0) && !decide (4096 < n) && !decide (16384 < L.length) && !L.any (badA n)
structure May (n : Int) (L : List Arc) : Prop where
  n0 : 0 ≤ n
  n1 : n ≤ 4096
  len : L.length ≤ 16384
  ok : ∀ a ∈ L, 0 ≤ a.1 ∧ a.1 < n ∧ 0 ≤ a.2.1 ∧ a.2.1 < n ∧ 0 ≤ a.2.2 ∧ a.2.2 ≤ 1000000
theorem badA_iff (n : Int) (a : Arc) : badA n a = false ↔ 0 ≤ a.1 ∧ a.1 < n ∧ 0 ≤ a.2.1 ∧ a.2.1 < n ∧ 0 ≤ a.2.2 ∧ a.2.2 ≤ 1000000 := by
  simp only [badA, Bool.or_eq_false_iff, Bool.not_eq_false', Bool.and_eq_true, decide_eq_true_eq, decide_eq_false_iff_not]
  omega
theorem mayB_iff (n : Int) (L : List Arc) : mayB n L = true ↔ May n L := by
  simp only [mayB, Bool.and_eq_true, Bool.not_eq_true', decide_eq_false_iff_not, List.any_eq_false]
  constructor
  · rintro ⟨⟨⟨h1, h2⟩, h3⟩, h4⟩
    exact ⟨by omega, by omega, by omega, fun a ha => (badA_iff n a).1 (by simpa using h4 a ha)⟩
  · intro h
    exact ⟨⟨⟨by have := h.n0; omega, by have := h.n1; omega⟩, by have := h.len; omega⟩, fun a ha => by simpa using (badA_iff n a).2 (h.ok a ha)⟩

abbrev EndL := List (Nat × Nat)
def ends (L : List Arc) : EndL := L.map fun a => (a.1.toNat, a.2.1.toNat)

def free (E : EndL) (P : List Nat) (v : Nat) : Bool := !P.contains v && E.all fun e => e.2 != v || P.contains e.1
def nextOf (E : EndL) (n : Nat) (P : List Nat) : Option Nat := (List.range n).find? (free E P)
def Gr (E : EndL) (n : Nat) (P : List Nat) : Prop := ∀ i (h : i < P.length), nextOf E n (P.take i) = some P[i]
def greedy (E : EndL) (n : Nat) : Nat → List Nat → List Nat
  | 0, P => P
  | f + 1, P => match nextOf E n P with
    | none => P
    | some v => greedy E n f (P ++ [v])
def topo (E : EndL) (n : Nat) : List Nat := greedy E n n []

variable {E : EndL} {n : Nat} {P Q : List Nat}
theorem free_iff (v : Nat) : free E P v = true ↔ v ∉ P ∧ ∀ e ∈ E, e.2 = v → e.1 ∈ P := by
  simp only [free, Bool.and_eq_true, Bool.not_eq_true', List.all_eq_true, Bool.or_eq_true, bne_iff_ne, ne_eq, List.contains_iff_mem]
  constructor
  · rintro ⟨h1, h2⟩
    refine ⟨fun h => ?_, fun e he hv => ?_⟩
    · rw [List.contains_iff_mem.2 h] at h1; cases h1
    · rcases h2 e he with h | h
      · exact absurd hv h
      · exact h
  · rintro ⟨h1, h2⟩
    refine ⟨?_, fun e he => ?_⟩
    · cases h : P.contains v
      · rfl
      · exact absurd (List.contains_iff_mem.1 h) h1
    · by_cases hv : e.2 = v
      · exact Or.inr (h2 e he hv)
      · exact Or.inl hv
theorem next_some (v : Nat) : nextOf E n P = some v ↔ v < n ∧ free E P v = true ∧ ∀ u, u < v → free E P u = false := by
  unfold nextOf
  rw [List.find?_range_eq_some]
  simp only [List.mem_range, Bool.not_eq_true']
  exact ⟨fun ⟨a, b, c⟩ => ⟨b, a, c⟩, fun ⟨a, b, c⟩ => ⟨b, a, c⟩⟩
theorem next_none : nextOf E n P = none ↔ ∀ u, u < n → free E P u = false := by
  unfold nextOf
  rw [List.find?_eq_none]
  simp

theorem gr_nil : Gr E n [] := fun i h => absurd h (by simp)
theorem gr_snoc {v : Nat} (h : Gr E n P) (hv : nextOf E n P = some v) : Gr E n (P ++ [v]) := by
  intro i hi
  simp only [List.length_append, List.length_singleton] at hi
  by_cases h1 : i < P.length
  · rw [List.take_append_of_le_length (by omega), List.getElem_append_left h1]
    exact h i h1
  · have : i = P.length := by omega
    subst this
    simp [hv]
theorem gr_take (h : Gr E n P) (k : Nat) : Gr E n (P.take k) := by
  intro i hi
  have hk : i < k := by simp at hi; omega
  have hp : i < P.length := by simp at hi; omega
  rw [List.take_take, Nat.min_eq_left (by omega), List.getElem_take]
  exact h i hp
theorem gr_lt (h : Gr E n P) : ∀ v ∈ P, v < n := by
  intro v hv
  obtain ⟨i, hi, rfl⟩ := List.getElem_of_mem hv
  exact ((next_some _).1 (h i hi)).1
theorem gr_not (h : Gr E n P) {i : Nat} (hi : i < P.length) : P[i] ∉ P.take i := ((free_iff _).1 ((next_some _).1 (h i hi)).2.1).1
theorem gr_in (h : Gr E n P) {i : Nat} (hi : i < P.length) {e : Nat × Nat} (he : e ∈ E) (hv : e.2 = P[i]) : e.1 ∈ P.take i := ((free_iff _).1 ((next_some _).1 (h i hi)).2.1).2 e he hv
theorem gr_nodup (h : Gr E n P) : P.Nodup := by
  rw [List.nodup_iff_pairwise_ne, List.pairwise_iff_getElem]
  intro i j hi hj hij e
  refine gr_not h hj ?_
  rw [← e]
  exact List.mem_iff_getElem.2 ⟨i, by simp; omega, by simp⟩
theorem pigeon : ∀ {n : Nat} {P : List Nat}, P.Nodup → (∀ v ∈ P, v < n) → P.length ≤ n := by
  intro n
  induction n with
  | zero =>
    intro P _ h
    cases P with
    | nil => simp
    | cons a P => exact absurd (h a (by simp)) (by omega)
  | succ n ih =>
    intro P hd h
    by_cases hn : n ∈ P
    · have h1 := ih (P := P.erase n) (hd.erase n) (fun v hv => by
        have h2 := hd.mem_erase_iff.1 hv
        have := h v h2.2
        have := h2.1
        omega)
      rw [List.length_erase_of_mem hn] at h1
      omega
    · have := ih hd (fun v hv => by
        have := h v hv
        have : v ≠ n := fun e => hn (e ▸ hv)
        omega)
      omega
theorem gr_len (h : Gr E n P) : P.length ≤ n := pigeon (gr_nodup h) (gr_lt h)
theorem gr_full (h : Gr E n P) (hl : P.length = n) : nextOf E n P = none := by
  rw [next_none]
  intro u hu
  cases e : free E P u
  · rfl
  · exfalso
    have h1 := ((free_iff u).1 e).1
    have := pigeon (n := n) (P := u :: P) (List.nodup_cons.2 ⟨h1, gr_nodup h⟩) (fun v hv => by
      rcases List.mem_cons.1 hv with rfl | hv
      · exact hu
      · exact gr_lt h v hv)
    simp at this
    omega
theorem gr_same (h : Gr E n P) (k : Gr E n Q) : ∀ i, i ≤ P.length → i ≤ Q.length → P.take i = Q.take i := by
  intro i
  induction i with
  | zero => simp
  | succ i ih =>
    intro hp hq
    have e := ih (by omega) (by omega)
    have h1 := h i (by omega)
    rw [e, k i (by omega)] at h1
    rw [List.take_succ_eq_append_getElem (by omega), List.take_succ_eq_append_getElem (by omega), e, Option.some.inj h1]
theorem gr_uniq (h : Gr E n P) (hn : nextOf E n P = none) (k : Gr E n Q) (kn : nextOf E n Q = none) : P = Q := by
  have go : ∀ {P Q : List Nat}, Gr E n P → nextOf E n P = none → Gr E n Q → ¬ P.length < Q.length := by
    intro P Q h hn k hl
    have e := gr_same h k P.length (by omega) (by omega)
    rw [List.take_length] at e
    have := k P.length hl
    rw [← e, hn] at this
    cases this
  have e1 := go h hn k
  have e2 := go k kn h
  have e := gr_same h k P.length (by omega) (by omega)
  rw [List.take_length, List.take_of_length_le (by omega)] at e
  exact e
theorem greedy_gr : ∀ (f : Nat) (P : List Nat), Gr E n P → n ≤ P.length + f → Gr E n (greedy E n f P) ∧ nextOf E n (greedy E n f P) = none
  | 0, P, h, hl => by
    show Gr E n P ∧ nextOf E n P = none
    exact ⟨h, gr_full h (by have := gr_len h; omega)⟩
  | f + 1, P, h, hl => by
    unfold greedy
    cases e : nextOf E n P with
    | none => exact ⟨h, e⟩
    | some v => exact greedy_gr f (P ++ [v]) (gr_snoc h e) (by simp; omega)
theorem topo_gr : Gr E n (topo E n) ∧ nextOf E n (topo E n) = none := greedy_gr n [] gr_nil (by simp)
theorem topo_uniq (h : Gr E n P) (hn : nextOf E n P = none) : P = topo E n := gr_uniq h hn topo_gr.1 topo_gr.2

/-- Where a number rises along each arc, all nodes come. -/
theorem topo_rises (x : Nat → Int) (hE : ∀ e ∈ E, e.1 < n ∧ x e.1 < x e.2) : (topo E n).length = n := by
  obtain ⟨h, hn⟩ := topo_gr (E := E) (n := n)
  rw [next_none] at hn
  have hl := gr_len h
  have all : ∀ (k : Nat) (u : Nat), u < n → (∀ u', u' < n → ¬ x u' < x u - (k : Int)) → u ∈ topo E n := by
    intro k
    induction k with
    | zero =>
      intro u hu hm
      apply Classical.byContradiction
      intro hno
      have := hn u hu
      have h2 : free E (topo E n) u = true := (free_iff u).2 ⟨hno, fun e he hv => by
        have h3 := hE e he
        subst hv
        exact absurd (by simpa using h3.2) (hm e.1 h3.1)⟩
      rw [h2] at this
      cases this
    | succ k ih =>
      intro u hu hm
      apply Classical.byContradiction
      intro hno
      have := hn u hu
      have h2 : free E (topo E n) u = true := (free_iff u).2 ⟨hno, fun e he hv => by
        have h3 := hE e he
        subst hv
        exact ih e.1 h3.1 (fun u' hu' hlt => hm u' hu' (by push_cast; omega))⟩
      rw [h2] at this
      cases this
  have low : ∀ m : Nat, ∃ b : Int, ∀ u, u < m → b ≤ x u := by
    intro m
    induction m with
    | zero => exact ⟨0, fun u hu => absurd hu (by omega)⟩
    | succ m ih =>
      obtain ⟨b, hb⟩ := ih
      refine ⟨min b (x m), fun u hu => ?_⟩
      by_cases e : u = m
      · subst e; omega
      · have := hb u (by omega); omega
  obtain ⟨b, hb⟩ := low n
  have every : ∀ u, u < n → u ∈ topo E n := fun u hu => all (x u - b).toNat u hu (fun u' hu' => by have := hb u' hu'; have := hb u hu; omega)
  have := (List.nodup_range (n := n)).length_le_of_subset (fun u hu => every u (by simpa using hu))
  simp at this
  omega

/-- How many arcs lead to w from nodes that are not in P. -/
def miss (E : EndL) (P : List Nat) (w : Nat) : Nat := E.countP fun e => e.2 == w && !P.contains e.1
/-- Where the arcs from v lead. -/
def outs (E : EndL) (v : Nat) : List Nat := (E.filter fun e => e.1 == v).map Prod.snd
theorem free_miss (v : Nat) : free E P v = true ↔ v ∉ P ∧ miss E P v = 0 := by
  rw [free_iff]
  refine and_congr_right fun _ => ?_
  unfold miss
  rw [List.countP_eq_zero]
  simp only [Bool.and_eq_true, beq_iff_eq, Bool.not_eq_true', not_and, Bool.not_eq_false, List.contains_iff_mem]
theorem miss_snoc {v : Nat} (hv : v ∉ P) (w : Nat) : miss E P w = miss E (P ++ [v]) w + (outs E v).count w := by
  unfold miss outs
  induction E with
  | nil => simp
  | cons e E ih =>
    have ih' := ih
    simp only [List.countP_cons, List.filter_cons]
    by_cases h1 : e.1 = v
    · subst h1
      by_cases h2 : e.2 = w
      · subst h2
        simp [hv]
        simp at ih'
        omega
      · simp [h2]
        simp at ih'
        omega
    · have h3 : (e.1 == v) = false := by simpa using h1
      by_cases h2 : e.2 = w
      · by_cases h4 : e.1 ∈ P
        · simp [h1, h2, h4]
          simp at ih'
          omega
        · simp [h1, h2, h4]
          simp at ih'
          omega
      · simp [h1, h2]
        simp at ih'
        omega
theorem miss_le (w : Nat) : miss E P w ≤ E.length := List.countP_le_length
theorem outs_mem {v w : Nat} (h : w ∈ outs E v) : (v, w) ∈ E := by
  unfold outs at h
  obtain ⟨e, he, rfl⟩ := List.mem_map.1 h
  obtain ⟨h1, h2⟩ := List.mem_filter.1 he
  have : e.1 = v := by simpa using h2
  subst this
  exact h1
/-- An arc from the last of an order leads to none of it. -/
theorem gr_fresh {v w : Nat} (h : Gr E n (P ++ [v])) (he : (v, w) ∈ E) : w ∉ P ++ [v] := by
  intro hw
  obtain ⟨i, hi, e⟩ := List.getElem_of_mem hw
  have h1 := gr_in h hi he e.symm
  have hd := gr_nodup h
  have hi' : i ≤ P.length := by simp at hi; omega
  rw [List.take_append_of_le_length hi'] at h1
  have := (List.nodup_append.1 hd).2.2
  exact absurd rfl (this v (List.mem_of_mem_take h1) v (by simp))

/-- What the heap holds: all that can come, each once. -/
structure Rdy (n : Nat) (P : List Nat) (m : Nat → Nat) (L : List Nat) : Prop where
  nd : L.Nodup
  iff : ∀ w, w ∈ L ↔ w < n ∧ w ∉ P ∧ m w = 0
theorem rdy_first (m : Nat → Nat) : Rdy n [] m ((List.range n).filter fun v => m v == 0) := by
  refine ⟨List.Nodup.sublist List.filter_sublist List.nodup_range, fun w => ?_⟩
  simp
theorem rdy_next {L : List Nat} (h : Rdy n P (miss E P) L) {a : Nat} (ha : a < L.length) (hl : ∀ b (hb : b < L.length), L[a] ≤ L[b]) : nextOf E n P = some L[a] := by
  rw [next_some]
  have h1 := (h.iff L[a]).1 (List.getElem_mem ha)
  refine ⟨h1.1, (free_miss _).2 h1.2, fun u hu => ?_⟩
  cases e : free E P u
  · rfl
  · exfalso
    have h2 := (free_miss u).1 e
    obtain ⟨b, hb, eb⟩ := List.getElem_of_mem ((h.iff u).2 ⟨by omega, h2⟩)
    have := hl b hb
    omega
theorem rdy_none (h : Rdy n P (miss E P) []) : nextOf E n P = none := by
  rw [next_none]
  intro u hu
  cases e : free E P u
  · rfl
  · exact absurd ((h.iff u).2 ⟨hu, (free_miss u).1 e⟩) (by simp)
theorem rdy_pop {L : List Nat} (h : Rdy n P (miss E P) L) {a : Nat} (ha : a < L.length) : Rdy n (P ++ [L[a]]) (fun w => miss E (P ++ [L[a]]) w + (outs E L[a]).count w) (L.eraseIdx a) := by
  have h1 := (h.iff L[a]).1 (List.getElem_mem ha)
  refine ⟨h.nd.sublist (List.eraseIdx_sublist _ _), fun w => ?_⟩
  rw [← miss_snoc h1.2.1]
  have e : w ∈ L.eraseIdx a ↔ w ∈ L ∧ w ≠ L[a] := by
    rw [← List.erase_eq_eraseIdx_of_idxOf (i := a) (a := L[a])]
    · rw [h.nd.mem_erase_iff]; exact and_comm
    · exact h.nd.idxOf_getElem a ha
  rw [e, h.iff]
  simp only [List.mem_append, List.mem_singleton, not_or]
  constructor
  · rintro ⟨⟨a1, a2, a3⟩, a4⟩; exact ⟨a1, ⟨a2, a4⟩, a3⟩
  · rintro ⟨a1, ⟨a2, a4⟩, a3⟩; exact ⟨⟨a1, a2, a3⟩, a4⟩
theorem rdy_step {L B : List Nat} {f : Nat → Nat} {k : Nat} (hk : k < B.length) (hn : B[k] < n) (hP : B[k] ∉ P) (h : Rdy n P (fun w => f w + (B.drop k).count w) L) :
    Rdy n P (fun w => f w + (B.drop (k + 1)).count w) (if f B[k] + (B.drop (k + 1)).count B[k] = 0 then L ++ [B[k]] else L) := by
  have hd : ∀ w, (B.drop k).count w = (B.drop (k + 1)).count w + if B[k] = w then 1 else 0 := by
    intro w
    rw [List.drop_eq_getElem_cons hk, List.count_cons]
    by_cases e : B[k] = w <;> simp [e]
  have hno : B[k] ∉ L := fun e => by
    have h9 : f B[k] + (B.drop k).count B[k] = 0 := ((h.iff _).1 e).2.2
    rw [hd B[k], if_pos rfl] at h9
    omega
  have hi : ∀ w, w ∈ L ↔ w < n ∧ w ∉ P ∧ f w + ((B.drop (k + 1)).count w + if B[k] = w then 1 else 0) = 0 := fun w => by
    rw [h.iff w, ← hd w]
  split
  · rename_i h0
    refine ⟨List.nodup_append.2 ⟨h.nd, by simp, fun x hx y hy e => hno (by rw [List.mem_singleton.1 hy] at e; exact e ▸ hx)⟩, fun w => ?_⟩
    rw [List.mem_append, List.mem_singleton]
    by_cases e : B[k] = w
    · subst e
      exact ⟨fun _ => ⟨hn, hP, h0⟩, fun _ => Or.inr rfl⟩
    · rw [hi w, if_neg e]
      constructor
      · rintro (⟨a1, a2, a3⟩ | a)
        · exact ⟨a1, a2, by omega⟩
        · exact absurd a.symm e
      · rintro ⟨a1, a2, a3⟩
        exact Or.inl ⟨a1, a2, by omega⟩
  · rename_i h0
    refine ⟨h.nd, fun w => ?_⟩
    by_cases e : B[k] = w
    · subst e
      exact ⟨fun h => absurd h hno, fun h => absurd h.2.2 h0⟩
    · rw [hi w, if_neg e]; simp
end Go.Proofs.Ytkloaekmjnbacaa.DagM
