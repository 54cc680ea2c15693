/-
  Layers with one arc more; numbers raised till they fit; layers fit; spans of what fits. Plain mathematics. Conditions: none.
-/
import Derived.Test.YtdapbhnonhamhaaLayC
namespace Go.Proofs.Ytdapbhnonhamhaa
open Go.Proofs.Ytdapbhnonhamhaa.DagM

section
variable {E E' : EndL} {d d2 x : Nat → Nat} {a b : Nat}
theorem lay_more (h : Lay E d) (h2 : Lay E' d2) (hE : ∀ e, e ∈ E' ↔ e ∈ E ∨ e = (a, b)) (hr : ∀ e ∈ E, e.1 < e.2) (hab : a < b) : (∀ u, d u ≤ d2 u) ∧ (∀ u, u < b → d2 u = d u) ∧ d2 b = max (d b) (d a + 1) := by
  have h1 : ∀ k u, d u ≤ k → d u ≤ d2 u := by
    intro k
    induction k with
    | zero => intro u hk; omega
    | succ k ih =>
      intro u hk
      rcases h.ti u with e | ⟨e, he, rfl, hd⟩
      · omega
      · have := ih e.1 (by omega)
        have := h2.up e ((hE e).2 (Or.inl he))
        omega
  have h1' : ∀ u, d u ≤ d2 u := fun u => h1 _ u (Nat.le_refl _)
  have h3 : ∀ k u, u ≤ k → u < b → d2 u ≤ d u := by
    intro k
    induction k with
    | zero =>
      intro u hk hu
      rcases h2.ti u with e | ⟨e, he, rfl, hd⟩
      · omega
      · rcases (hE e).1 he with h4 | rfl
        · have := hr e h4; omega
        · simp only at hu; omega
    | succ k ih =>
      intro u hk hu
      rcases h2.ti u with e | ⟨e, he, rfl, hd⟩
      · omega
      · rcases (hE e).1 he with h4 | rfl
        · have := hr e h4
          have := ih e.1 (by omega) (by omega)
          have := h.up e h4
          omega
        · simp only at hu; omega
  have h3' : ∀ u, u < b → d2 u = d u := fun u hu => Nat.le_antisymm (h3 u u (Nat.le_refl _) hu) (h1' u)
  refine ⟨h1', h3', ?_⟩
  have g1 := h1' b
  have g2 := h2.up (a, b) ((hE _).2 (Or.inr rfl))
  simp only at g2
  rw [h3' a hab] at g2
  rcases h2.ti b with e | ⟨e, he, h4, hd⟩
  · omega
  · rcases (hE e).1 he with h5 | rfl
    · have := hr e h5
      rw [h3' e.1 (by omega)] at hd
      have := h.up e h5
      rw [h4] at this
      omega
    · simp only at hd
      rw [h3' a hab] at hd
      omega

/-- Numbers raised: r rounds are done, and of the next one the arcs K. -/
structure Rais (E : EndL) (x : Nat → Nat) (r : Nat) (K : EndL) : Prop where
  sat : ∀ e ∈ E, e.2 ≤ r → x e.1 + 1 ≤ x e.2
  cur : ∀ e ∈ K, e.2 ≤ r + 1 → x e.1 + 1 ≤ x e.2
  bd : ∀ u, x u ≤ 39 + u
theorem rais_nil (hr : ∀ e ∈ E, e.1 < e.2) (hx : ∀ u, x u ≤ 39) : Rais E x 0 [] := ⟨fun e he h => by have := hr e he; omega, fun e he => by simp at he, fun u => by have := hx u; omega⟩
theorem Rais.step {K : EndL} {r : Nat} (hr : ∀ e ∈ E, e.1 < e.2) (h : Rais E x r K) (hK : ∀ e ∈ K, e ∈ E) (he : (a, b) ∈ E) : Rais E (fun u => if u = b then max (x b) (x a + 1) else x u) r (K ++ [(a, b)]) := by
  have hab := hr _ he
  simp only at hab
  have hs := h.sat _ he
  simp only at hs
  refine ⟨fun e h1 h2 => ?_, fun e h1 h2 => ?_, fun u => ?_⟩
  · have h3 := hr e h1
    have h4 := h.sat e h1 h2
    by_cases e1 : e.1 = b
    · have e2 : ¬ e.2 = b := by omega
      have := hs (by omega)
      simp only [e1, if_true, if_neg e2]
      rw [e1] at h4
      omega
    · by_cases e2 : e.2 = b
      · simp only [e2, if_true, if_neg e1]
        rw [e2] at h4
        omega
      · simp only [if_neg e1, if_neg e2]
        exact h4
  · rcases List.mem_append.1 h1 with h1 | h1
    · have h3 := hr e (hK e h1)
      have h4 := h.cur e h1 h2
      by_cases e1 : e.1 = b
      · have e2 : ¬ e.2 = b := by omega
        have := hs (by omega)
        simp only [e1, if_true, if_neg e2]
        rw [e1] at h4
        omega
      · by_cases e2 : e.2 = b
        · simp only [e2, if_true, if_neg e1]
          rw [e2] at h4
          omega
        · simp only [if_neg e1, if_neg e2]
          exact h4
    · obtain rfl := List.mem_singleton.1 h1
      have e1 : ¬ a = b := by omega
      simp only [if_true, if_neg e1]
      omega
  · have := h.bd u
    have := h.bd a
    by_cases e : u = b
    · subst e; simp only [if_true]; omega
    · simp only [if_neg e]; omega
theorem Rais.round {r : Nat} (h : Rais E x r E) : Rais E x (r + 1) [] := ⟨fun e he h2 => h.cur e he h2, fun e he => by simp at he, h.bd⟩
end

/-- Layers fit. -/
theorem lay_fit {n : Nat} {L : List Arc} {d : Nat → Nat} (h : Lay (ends L) d) (hM : May n L) : fitB (castI ((List.range n).map d)) L = true := by
  unfold fitB
  rw [List.all_eq_true]
  intro a ha
  have ok := hM.ok a ha
  have := h.up _ (List.mem_map.2 ⟨a, ha, rfl⟩)
  have v : ∀ i : Int, 0 ≤ i → i < n → val (castI ((List.range n).map d)) i = (d i.toNat : Int) := fun i h0 h1 => by
    have : i.toNat < n := by omega
    simp [val, castI, List.getD_eq_getElem?_getD, this]
  simp only at this
  simp only [fitA, decide_eq_true_eq]
  rw [v _ ok.1 ok.2.1, v _ ok.2.2.1 ok.2.2.2.1]
  omega
/-- What fits has no lesser span than the layers. -/
theorem lay_span {n : Nat} {E : EndL} {d x : Nat → Nat} (h : Lay E d) (hn : 1 ≤ n) (hE : ∀ e ∈ E, e.1 < n ∧ e.2 < n) (hf : ∀ e ∈ E, x e.1 + 1 ≤ x e.2) : (∀ u, u < n → d u ≤ x u) ∧ spanI (castI ((List.range n).map d)) ≤ spanI (castI ((List.range n).map x)) := by
  have len : ∀ f : Nat → Nat, (castI ((List.range n).map f)).length = n := fun f => by simp [castI]
  have mem : ∀ (f : Nat → Nat) (y : Int), y ∈ castI ((List.range n).map f) ↔ ∃ u, u < n ∧ y = (f u : Int) := fun f y => by
    constructor
    · intro hy
      obtain ⟨k, hk, rfl⟩ := List.mem_map.1 hy
      obtain ⟨u, hu, rfl⟩ := List.mem_map.1 hk
      exact ⟨u, by simpa using hu, rfl⟩
    · rintro ⟨u, hu, rfl⟩
      exact List.mem_map.2 ⟨f u, List.mem_map.2 ⟨u, by simpa using hu, rfl⟩, rfl⟩
  have p0 := h.least (N := n) (y := fun u => (x u : Int)) (fun e he => (hE e he).1) (fun u _ => by omega) (fun e he => by have := hf e he; omega)
  refine ⟨fun u hu => by have := p0 u hu; omega, ?_⟩
  have s : ∀ f : Nat → Nat, spanI (castI ((List.range n).map f)) = Lib.maxOf (castI ((List.range n).map f)) - Lib.minOf (castI ((List.range n).map f)) := fun f => by
    unfold spanI
    rw [if_neg (by rw [len]; omega)]
  rw [s, s]
  obtain ⟨u, hu, eu⟩ := (mem d _).1 (maxOf_mem (by rw [len]; omega))
  obtain ⟨v, hv, ev⟩ := (mem x _).1 (minOf_mem (x := castI ((List.range n).map x)) (by rw [len]; omega))
  obtain ⟨v2, _, ev2⟩ := (mem d _).1 (minOf_mem (x := castI ((List.range n).map d)) (by rw [len]; omega))
  have p1 := h.least (N := n) (y := fun u => (x u : Int) - (x v : Int)) (fun e he => (hE e he).1) (fun u hu => by
    have := minOf_le ((mem x _).2 ⟨u, hu, rfl⟩)
    omega) (fun e he => by have := hf e he; omega) u hu
  have p2 := maxOf_ge ((mem x _).2 ⟨u, hu, rfl⟩)
  omega
end Go.Proofs.Ytdapbhnonhamhaa
