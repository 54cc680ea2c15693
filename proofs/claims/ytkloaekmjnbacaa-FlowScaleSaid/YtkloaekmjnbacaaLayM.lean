/-
  Layers in plain mathematics: what they are, that they are the least, that there is one; the code's state (node by node) and the document's (raised round by round). Conditions: none.
-/
import Derived.Test.YtkloaekmjnbacaaDagR
namespace Go.Proofs.Ytkloaekmjnbacaa.DagM

/-- d is of each node how many arcs the longest way to it has. -/
structure Lay (E : EndL) (d : Nat → Nat) : Prop where
  up : ∀ e ∈ E, d e.1 + 1 ≤ d e.2
  ti : ∀ w, d w = 0 ∨ ∃ e ∈ E, e.2 = w ∧ d w = d e.1 + 1

variable {E : EndL} {d d' x : Nat → Nat} {Q B : List Nat} {v : Nat}
theorem Lay.least (h : Lay E d) {N : Nat} {y : Nat → Int} (hE : ∀ e ∈ E, e.1 < N) (h0 : ∀ u, u < N → 0 ≤ y u) (hf : ∀ e ∈ E, y e.1 < y e.2) : ∀ u, u < N → (d u : Int) ≤ y u := by
  have go : ∀ (k u : Nat), d u ≤ k → u < N → (d u : Int) ≤ y u := by
    intro k
    induction k with
    | zero => intro u hk hu; have := h0 u hu; omega
    | succ k ih =>
      intro u hk hu
      rcases h.ti u with e | ⟨e, he, rfl, hd⟩
      · have := h0 u hu; omega
      · have h1 := ih e.1 (by omega) (hE e he)
        have h2 := hf e he
        omega
  exact fun u hu => go (d u) u (Nat.le_refl _) hu
theorem Lay.le (h : Lay E d) (h' : Lay E d') : ∀ u, d u ≤ d' u := by
  have go : ∀ (k u : Nat), d u ≤ k → d u ≤ d' u := by
    intro k
    induction k with
    | zero => intro u hk; omega
    | succ k ih =>
      intro u hk
      rcases h.ti u with e | ⟨e, he, rfl, hd⟩
      · omega
      · have h1 := ih e.1 (by omega)
        have h2 := h'.up e he
        omega
  exact fun u => go (d u) u (Nat.le_refl _)
theorem Lay.uniq (h : Lay E d) (h' : Lay E d') : d = d' := funext fun u => Nat.le_antisymm (h.le h' u) (h'.le h u)
theorem Lay.same {E' : EndL} (h : Lay E d) (he : ∀ e, e ∈ E ↔ e ∈ E') : Lay E' d :=
  ⟨fun e h1 => h.up e ((he e).2 h1), fun w => (h.ti w).imp id fun ⟨e, h1, h2⟩ => ⟨e, (he e).1 h1, h2⟩⟩
/-- All numbers up to that of a node are there. -/
theorem Lay.all (h : Lay E d) {N : Nat} (hE : ∀ e ∈ E, e.1 < N) {u : Nat} (hu : u < N) : ∀ k, k ≤ d u → ∃ v, v < N ∧ d v = k := by
  have go : ∀ (m u : Nat), u < N → ∀ k, k + m = d u → ∃ v, v < N ∧ d v = k := by
    intro m
    induction m with
    | zero => intro u hu k hk; exact ⟨u, hu, by omega⟩
    | succ m ih =>
      intro u hu k hk
      rcases h.ti u with e | ⟨e, he, rfl, hd⟩
      · omega
      · exact ih e.1 (hE e he) k (by omega)
  exact fun k hk => go (d u - k) u hu k (by omega)
theorem outs_of_mem {w : Nat} (h : (v, w) ∈ E) : w ∈ outs E v := by
  unfold outs
  exact List.mem_map.2 ⟨(v, w), List.mem_filter.2 ⟨h, by simp⟩, rfl⟩

/-- Where the code stands: the nodes of Q are done. -/
structure LaySt (E : EndL) (Q : List Nat) (x : Nat → Nat) : Prop where
  up : ∀ e ∈ E, e.1 ∈ Q → x e.1 + 1 ≤ x e.2
  ti : ∀ w, x w = 0 ∨ ∃ e ∈ E, e.1 ∈ Q ∧ e.2 = w ∧ x w = x e.1 + 1
  bd : ∀ w, x w ≤ Q.length
/-- Q is done, and of v all that is in B. -/
structure LayIn (E : EndL) (Q : List Nat) (v : Nat) (B : List Nat) (x : Nat → Nat) : Prop where
  up : ∀ e ∈ E, e.1 ∈ Q → x e.1 + 1 ≤ x e.2
  cur : ∀ w ∈ B, x v + 1 ≤ x w
  ti : ∀ w, x w = 0 ∨ ∃ e ∈ E, (e.1 ∈ Q ∨ e.1 = v) ∧ e.2 = w ∧ x w = x e.1 + 1
  bv : x v ≤ Q.length
  bd : ∀ w, x w ≤ Q.length + 1
theorem laySt_nil : LaySt E [] (fun _ => 0) := ⟨fun e _ h => by simp at h, fun _ => Or.inl rfl, fun _ => Nat.le_refl _⟩
theorem LaySt.begin (h : LaySt E Q x) (v : Nat) : LayIn E Q v [] x :=
  ⟨h.up, fun w hw => by simp at hw, fun w => (h.ti w).imp id fun ⟨e, h1, h2, h3⟩ => ⟨e, h1, Or.inl h2, h3⟩, h.bd v, fun w => Nat.le_succ_of_le (h.bd w)⟩
theorem LayIn.step (h : LayIn E Q v B x) {w : Nat} (he : (v, w) ∈ E) (hw : w ∉ Q ++ [v]) : LayIn E Q v (B ++ [w]) (fun u => if u = w then max (x w) (x v + 1) else x u) := by
  have hv : v ≠ w := fun e => hw (by subst e; simp)
  have hq : ∀ u ∈ Q, u ≠ w := fun u hu e => hw (by subst e; simp [hu])
  have mono : ∀ u, x u ≤ (if u = w then max (x w) (x v + 1) else x u) := fun u => by
    by_cases e : u = w
    · subst e; simp; omega
    · simp [e]
  refine ⟨fun e h1 h2 => ?_, fun u hu => ?_, fun u => ?_, ?_, fun u => ?_⟩
  · have := h.up e h1 h2
    have := mono e.2
    rw [if_neg (hq _ h2)]
    omega
  · rw [if_neg hv]
    rcases List.mem_append.1 hu with h1 | h1
    · have := h.cur u h1
      have := mono u
      omega
    · obtain rfl := List.mem_singleton.1 h1
      rw [if_pos rfl]
      omega
  · by_cases e : u = w
    · subst e
      rw [if_pos rfl]
      by_cases hc : x u < x v + 1
      · exact Or.inr ⟨(v, u), he, Or.inr rfl, rfl, by simp only [if_neg hv]; omega⟩
      · rcases h.ti u with h0 | ⟨e, h1, h2, h3, h4⟩
        · omega
        · refine Or.inr ⟨e, h1, h2, h3, ?_⟩
          have : e.1 ≠ u := by
            rcases h2 with h2 | h2
            · exact hq _ h2
            · rw [h2]; exact hv
          rw [if_neg this]
          omega
    · rw [if_neg e]
      rcases h.ti u with h0 | ⟨e', h1, h2, h3, h4⟩
      · exact Or.inl h0
      · refine Or.inr ⟨e', h1, h2, h3, ?_⟩
        have : e'.1 ≠ w := by
          rcases h2 with h2 | h2
          · exact hq _ h2
          · rw [h2]; exact hv
        rw [if_neg this]
        exact h4
  · rw [if_neg hv]; exact h.bv
  · have := h.bd u
    have := h.bv
    by_cases e : u = w
    · subst e; simp; omega
    · simp [e]; omega
theorem LayIn.done (h : LayIn E Q v (outs E v) x) : LaySt E (Q ++ [v]) x := by
  refine ⟨fun e h1 h2 => ?_, fun w => (h.ti w).imp id fun ⟨e, h1, h2, h3⟩ => ⟨e, h1, by simpa using h2, h3⟩, fun w => by simpa using h.bd w⟩
  rcases List.mem_append.1 h2 with h2 | h2
  · exact h.up e h1 h2
  · have e1 : e.1 = v := by simpa using h2
    rw [e1]
    exact h.cur e.2 (outs_of_mem (by rw [← e1]; exact h1))
theorem LaySt.lay (h : LaySt E Q x) (hq : ∀ e ∈ E, e.1 ∈ Q) : Lay E x :=
  ⟨fun e he => h.up e he (hq e he), fun w => (h.ti w).imp id fun ⟨e, h1, _, h3⟩ => ⟨e, h1, h3⟩⟩

/-- Where the document's answer stands: r rounds are done, and of the next one the arcs K. -/
structure LayRef (d x : Nat → Nat) (r : Nat) (K : EndL) : Prop where
  le : ∀ w, x w ≤ d w
  eq : ∀ w, d w ≤ r → x w = d w
  cur : ∀ e ∈ K, d e.1 ≤ r → d e.1 + 1 ≤ x e.2
theorem layRef_nil : LayRef d (fun _ => 0) 0 [] := ⟨fun _ => Nat.zero_le _, fun w h => by omega, fun e h => by simp at h⟩
theorem LayRef.step {K : EndL} {r a b : Nat} (hd : Lay E d) (h : LayRef d x r K) (he : (a, b) ∈ E) : LayRef d (fun u => if u = b then (if x b ≤ x a then x a + 1 else x b) else x u) r (K ++ [(a, b)]) := by
  have hu := hd.up _ he
  simp only at hu
  have la := h.le a
  have lb := h.le b
  have mono : ∀ u, x u ≤ (if u = b then (if x b ≤ x a then x a + 1 else x b) else x u) := fun u => by
    by_cases e : u = b
    · subst e; simp only [if_pos]; split <;> omega
    · simp [e]
  refine ⟨fun w => ?_, fun w hw => ?_, fun e h1 h2 => ?_⟩
  · by_cases e : w = b
    · subst e; simp only [if_pos]; split <;> omega
    · rw [if_neg e]; exact h.le w
  · have := h.eq w hw
    by_cases e : w = b
    · subst e; simp only [if_pos]; split <;> omega
    · rw [if_neg e]; exact this
  · rcases List.mem_append.1 h1 with h1 | h1
    · have := h.cur e h1 h2
      have := mono e.2
      omega
    · obtain rfl := List.mem_singleton.1 h1
      simp only at h2 ⊢
      have := h.eq a h2
      simp only [if_true]
      split <;> omega
theorem LayRef.round {r : Nat} (hd : Lay E d) (h : LayRef d x r E) : LayRef d x (r + 1) [] := by
  refine ⟨h.le, fun w hw => ?_, fun e he => by simp at he⟩
  by_cases e : d w ≤ r
  · exact h.eq w e
  · rcases hd.ti w with h0 | ⟨e', h1, rfl, h3⟩
    · omega
    · have := h.cur e' h1 (by omega)
      have := h.le e'.2
      omega
theorem LayRef.fin {K : EndL} {r : Nat} (h : LayRef d x r K) (hr : ∀ w, d w ≤ r) : x = d := funext fun w => h.eq w (hr w)
end Go.Proofs.Ytkloaekmjnbacaa.DagM
