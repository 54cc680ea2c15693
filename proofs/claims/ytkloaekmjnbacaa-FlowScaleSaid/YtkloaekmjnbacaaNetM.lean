/-
  A dag through which something flows, in plain mathematics: steps along arcs and back, distances by slack and by steps back, and the search for the nearest node. Conditions: none.
-/
import Derived.Test.YtkloaekmjnbacaaDagM
namespace Go.Proofs.Ytkloaekmjnbacaa.DagM

/-- A step: its arc, from where, to where; 1 if it goes back. -/
abbrev Stp := Nat × Nat × Nat × Nat
def stpA (v i : Nat) (e : Nat × Nat) : List Stp := (if e.1 = v then [(i, e.1, e.2, 0)] else []) ++ (if e.2 = v then [(i, e.2, e.1, 1)] else [])
def stpsK (E : EndL) (k v : Nat) : List Stp := (List.range k).flatMap fun i => stpA v i (E.getD i (0, 0))
def stps (E : EndL) (v : Nat) : List Stp := stpsK E E.length v
theorem stpsK_succ (E : EndL) (k v : Nat) : stpsK E (k + 1) v = stpsK E k v ++ stpA v k (E.getD k (0, 0)) := by
  unfold stpsK
  rw [List.range_succ, List.flatMap_append]
  simp
theorem mem_stps {E : EndL} {v : Nat} {s : Stp} (h : s ∈ stps E v) : s.1 < E.length ∧ s.2.1 = v ∧ ((s.2.2.2 = 0 ∧ E.getD s.1 (0, 0) = (v, s.2.2.1)) ∨ (s.2.2.2 = 1 ∧ E.getD s.1 (0, 0) = (s.2.2.1, v))) := by
  unfold stps stpsK at h
  obtain ⟨i, hi, hs⟩ := List.mem_flatMap.1 h
  have hi' : i < E.length := by simpa using hi
  unfold stpA at hs
  generalize he : E.getD i (0, 0) = e at hs
  obtain ⟨a, b⟩ := e
  simp only [List.mem_append] at hs
  rcases hs with hs | hs
  · split at hs
    · rename_i hv
      simp at hs hv
      subst hs
      exact ⟨hi', hv, Or.inl ⟨rfl, by rw [he, hv]⟩⟩
    · simp at hs
  · split at hs
    · rename_i hv
      simp at hs hv
      subst hs
      exact ⟨hi', hv, Or.inr ⟨rfl, by rw [he, hv]⟩⟩
    · simp at hs
theorem stps_fwd {E : EndL} {i : Nat} (h : i < E.length) : (i, (E.getD i (0, 0)).1, (E.getD i (0, 0)).2, 0) ∈ stps E (E.getD i (0, 0)).1 := by
  unfold stps stpsK
  refine List.mem_flatMap.2 ⟨i, by simpa using h, ?_⟩
  unfold stpA
  simp
theorem stps_bck {E : EndL} {i : Nat} (h : i < E.length) : (i, (E.getD i (0, 0)).2, (E.getD i (0, 0)).1, 1) ∈ stps E (E.getD i (0, 0)).2 := by
  unfold stps stpsK
  refine List.mem_flatMap.2 ⟨i, by simpa using h, ?_⟩
  unfold stpA
  simp

/-- May something more flow by that step? -/
def opn (f : Nat → Int) (s : Stp) : Bool := decide (s.2.2.2 = 0) || decide (0 < f s.1)
/-- By how much its arc is too long. -/
def slk (x : Nat → Int) (s : Stp) : Int := if 0 < s.2.2.2 then 0 else x s.2.2.1 - x s.2.1 - 1
/-- Coordinates fit; what flows is not below 0, and flows along tight arcs alone. -/
structure Fits (E : EndL) (n : Nat) (x f : Nat → Int) : Prop where
  ends : ∀ i, i < E.length → (E.getD i (0, 0)).1 < n ∧ (E.getD i (0, 0)).2 < n
  fit : ∀ i, i < E.length → x (E.getD i (0, 0)).1 + 1 ≤ x (E.getD i (0, 0)).2
  nn : ∀ i, i < E.length → 0 ≤ f i
  ti : ∀ i, i < E.length → 0 < f i → x (E.getD i (0, 0)).2 = x (E.getD i (0, 0)).1 + 1
section
variable {E : EndL} {n : Nat} {x f lf : Nat → Int}
theorem Fits.step (h : Fits E n x f) {v : Nat} {s : Stp} (hs : s ∈ stps E v) : s.1 < E.length ∧ s.2.1 = v ∧ v < n ∧ s.2.2.1 < n ∧ s.2.2.2 ≤ 1 ∧ 0 ≤ slk x s ∧
    (s.2.2.2 = 0 → slk x s = x s.2.2.1 - x v - 1 ∧ E.getD s.1 (0, 0) = (v, s.2.2.1)) ∧ (s.2.2.2 = 1 → slk x s = 0 ∧ E.getD s.1 (0, 0) = (s.2.2.1, v) ∧ (opn f s = true → x s.2.2.1 = x v - 1)) := by
  obtain ⟨h1, h2, h3⟩ := mem_stps hs
  have he := h.ends s.1 h1
  have hf := h.fit s.1 h1
  have ht := h.ti s.1 h1
  rcases h3 with ⟨h3, h4⟩ | ⟨h3, h4⟩
  · rw [h4] at he hf ht
    simp only at he hf ht
    refine ⟨h1, h2, he.1, he.2, by omega, ?_, fun _ => ⟨?_, h4⟩, fun e => by omega⟩
    · simp [slk, h3, h2]; omega
    · simp [slk, h3, h2]
  · rw [h4] at he hf ht
    simp only at he hf ht
    refine ⟨h1, h2, he.2, he.1, by omega, ?_, fun e => by omega, fun _ => ⟨?_, h4, fun ho => ?_⟩⟩
    · simp [slk, h3]
    · simp [slk, h3]
    · simp [opn, h3] at ho
      have := ht ho
      omega
end

/-! Distances. -/
abbrev Dst := Int × Int
def infD : Dst := (9223372036854775807, 9223372036854775807)
def ltD (a b : Dst) : Bool := decide (a.1 < b.1) || decide (a.1 = b.1) && decide (a.2 < b.2)
def leD (a b : Dst) : Prop := a.1 < b.1 ∨ (a.1 = b.1 ∧ a.2 ≤ b.2)
def lenS (x : Nat → Int) (d : Dst) (s : Stp) : Dst := (d.1 + slk x s, d.2 + (s.2.2.2 : Int))
theorem ltD_iff (a b : Dst) : ltD a b = true ↔ a.1 < b.1 ∨ (a.1 = b.1 ∧ a.2 < b.2) := by simp [ltD]
theorem ltD_not (a b : Dst) : ltD a b = false ↔ leD b a := by
  have h := ltD_iff a b
  constructor
  · intro e
    rw [e] at h
    have : ¬ (a.1 < b.1 ∨ (a.1 = b.1 ∧ a.2 < b.2)) := fun k => by have := h.2 k; cases this
    unfold leD
    omega
  · intro e
    cases e2 : ltD a b
    · rfl
    · have := h.1 e2
      unfold leD at e
      omega
theorem leD_refl (a : Dst) : leD a a := Or.inr ⟨rfl, Int.le_refl _⟩
theorem leD_trans {a b c : Dst} (h : leD a b) (k : leD b c) : leD a c := by unfold leD at *; omega
theorem ltD_le {a b : Dst} (h : ltD a b = true) : leD a b := by rw [ltD_iff] at h; unfold leD; omega
theorem leD_lt {a b c : Dst} (h : leD a b) (k : ltD b c = true) : ltD a c = true := by rw [ltD_iff] at *; unfold leD at h; omega
theorem ltD_ne {a b : Dst} (h : ltD a b = true) : a ≠ b := by
  intro e
  subst e
  rw [ltD_iff] at h
  omega
theorem leD_anti {a b : Dst} (h : leD a b) (k : leD b a) : a = b := by
  unfold leD at *
  obtain ⟨a1, a2⟩ := a
  obtain ⟨b1, b2⟩ := b
  simp only at h k
  have h1 : a1 = b1 := by omega
  have h2 : a2 = b2 := by omega
  rw [h1, h2]

/-- Where the search stands: the nodes of P are done (each by the steps done), the heap has H; the node that was done last lies at last. -/
structure Dij (E : EndL) (n : Nat) (x f lf : Nat → Int) (done : Nat → List Stp) (P : List Nat) (far : Nat → Dst) (H : List (Int × Int × Int)) (near : Int) (last : Dst) : Prop where
  nd : P.Nodup
  lt : ∀ v ∈ P, v < n
  fin : ∀ v, v < n → far v ≠ infD → 0 ≤ (far v).1 ∧ (far v).1 ≤ x v + (far v).2 ∧ 0 ≤ (far v).2 ∧ (far v).2 ≤ P.length
  hp : ∀ e ∈ H, ∃ v : Nat, v < n ∧ e.1 = (v : Int) ∧ far v ≠ infD ∧ leD (far v) e.2 ∧ leD last e.2 ∧ (v ∈ P → far v ≠ e.2)
  hn : H.Nodup
  todo : ∀ v, v < n → far v ≠ infD → v ∈ P ∨ ((v : Int), far v) ∈ H
  le : ∀ v ∈ P, leD (far v) last ∧ far v ≠ infD
  rlx : ∀ v ∈ P, ∀ s ∈ done v, opn f s = true → leD (far s.2.2.1) (lenS x (far v) s)
  dfc : ∀ v ∈ P, lf v < 0 → near ≤ (far v).1
  nr : near = 9223372036854775807 ∨ ∃ t ∈ P, lf t < 0 ∧ (far t).1 = near
  pre : ∀ v, v < n → far v ≠ infD → (0 < lf v ∧ far v = (0, 0)) ∨ ∃ u ∈ P, ∃ s ∈ stps E u, s.2.2.1 = v ∧ opn f s = true ∧ far v = lenS x (far u) s
  src : ∀ v, v < n → 0 < lf v → far v = (0, 0)

/-- Where the first loop stands: all sources below k are there. -/
def far0 (lf : Nat → Int) (k v : Nat) : Dst := if v < k ∧ 0 < lf v then (0, 0) else infD
def hp0 (lf : Nat → Int) (k : Nat) : List (Int × Int × Int) := ((List.range k).filter fun v => decide (0 < lf v)).map fun (v : Nat) => ((v : Int), 0, 0)
theorem hp0_yes {lf : Nat → Int} {k : Nat} (h : 0 < lf k) : hp0 lf (k + 1) = hp0 lf k ++ [((k : Int), 0, 0)] := by
  unfold hp0
  rw [List.range_succ, List.filter_append, List.map_append]
  simp [h]
theorem hp0_no {lf : Nat → Int} {k : Nat} (h : ¬ 0 < lf k) : hp0 lf (k + 1) = hp0 lf k := by
  unfold hp0
  rw [List.range_succ, List.filter_append, List.map_append]
  simp [h]
theorem hp0_len (lf : Nat → Int) (k : Nat) : (hp0 lf k).length ≤ k := by
  unfold hp0
  rw [List.length_map]
  have := List.length_filter_le (fun v => decide (0 < lf v)) (List.range k)
  simpa using this
theorem far0_yes {lf : Nat → Int} {k : Nat} (h : 0 < lf k) (v : Nat) : far0 lf (k + 1) v = if v = k then (0, 0) else far0 lf k v := by
  unfold far0
  by_cases e : v = k
  · subst e; simp [h]
  · have : v < k + 1 ↔ v < k := by omega
    simp [e, this]
theorem far0_no {lf : Nat → Int} {k : Nat} (h : ¬ 0 < lf k) (v : Nat) : far0 lf (k + 1) v = far0 lf k v := by
  unfold far0
  by_cases e : v = k
  · subst e; simp [h]
  · have : v < k + 1 ↔ v < k := by omega
    simp [this]
section
variable {E : EndL} {n : Nat} {x f lf : Nat → Int} {done : Nat → List Stp} {P : List Nat} {far : Nat → Dst} {H : List (Int × Int × Int)} {near : Int} {last : Dst}
theorem dij_start (hx : ∀ v, v < n → 0 < lf v → 0 ≤ x v) : Dij E n x f lf done [] (far0 lf n) (hp0 lf n) 9223372036854775807 (0, 0) := by
  have hf : ∀ v, v < n → far0 lf n v ≠ infD → 0 < lf v ∧ far0 lf n v = (0, 0) := by
    intro v hv h
    unfold far0 at h ⊢
    by_cases e : v < n ∧ 0 < lf v
    · rw [if_pos e]; exact ⟨e.2, rfl⟩
    · rw [if_neg e] at h; exact absurd rfl h
  have h0 : ((0, 0) : Dst) ≠ infD := by simp [infD]
  refine ⟨List.nodup_nil, by simp, fun v hv h => ?_, fun e he => ?_, ?_, fun v hv h => Or.inr ?_, by simp, by simp, by simp, Or.inl rfl, fun v hv h => Or.inl (hf v hv h), fun v hv h => ?_⟩
  · obtain ⟨h1, h2⟩ := hf v hv h
    have := hx v hv h1
    rw [h2]
    simp; omega
  · obtain ⟨v, hv, rfl⟩ := List.mem_map.1 he
    have hv' : v < n ∧ 0 < lf v := by simpa using hv
    have e : far0 lf n v = (0, 0) := by unfold far0; rw [if_pos hv']
    exact ⟨v, hv'.1, rfl, by rw [e]; exact h0, by rw [e]; exact leD_refl _, leD_refl _, by simp⟩
  · unfold hp0
    have h1 : (List.range n).Nodup := List.nodup_range
    unfold List.Nodup at h1 ⊢
    rw [List.pairwise_map]
    refine (h1.sublist List.filter_sublist).imp fun {a b} hab e => hab ?_
    simp only [Prod.mk.injEq, and_true] at e
    omega
  · obtain ⟨h1, h2⟩ := hf v hv h
    rw [h2]
    exact List.mem_map.2 ⟨v, by simp; exact ⟨hv, h1⟩, rfl⟩
  · unfold far0; rw [if_pos ⟨hv, h⟩]

theorem mem_erase {α : Type} [DecidableEq α] {l : List α} {a : Nat} (ha : a < l.length) {y : α} (hy : y ∈ l) (hne : y ≠ l[a]) : y ∈ l.eraseIdx a := by
  rw [List.mem_eraseIdx_iff_getElem]
  obtain ⟨i, hi, rfl⟩ := List.mem_iff_getElem.1 hy
  refine ⟨i, hi, fun e => hne ?_, rfl⟩
  subst e; rfl
theorem nodup_erase_ne {α : Type} {l : List α} (h : l.Nodup) {a : Nat} (ha : a < l.length) {y : α} (hy : y ∈ l.eraseIdx a) : y ≠ l[a] := by
  rw [List.mem_eraseIdx_iff_getElem] at hy
  obtain ⟨i, hi, hne, rfl⟩ := hy
  intro e
  unfold List.Nodup at h
  rw [List.pairwise_iff_getElem] at h
  rcases Nat.lt_or_gt_of_ne hne with k | k
  · exact h i a hi ha k e
  · exact h a i ha hi k e.symm
theorem Dij.skip (h : Dij E n x f lf done P far H near last) {a : Nat} (ha : a < H.length) (v : Nat) (hv : H[a].1 = (v : Int)) (hne : far v ≠ H[a].2) : Dij E n x f lf done P far (H.eraseIdx a) near last := by
  refine ⟨h.nd, h.lt, h.fin, fun e he => h.hp e (List.mem_of_mem_eraseIdx he), h.hn.eraseIdx _, fun u hu hf => ?_, h.le, h.rlx, h.dfc, h.nr, h.pre, h.src⟩
  refine (h.todo u hu hf).imp id fun hm => mem_erase ha hm fun e => ?_
  rw [← e] at hv hne
  simp only at hv hne
  have : u = v := by omega
  subst this
  exact hne rfl
/-- The nearest node is begun. -/
theorem Dij.begin (h : Dij E n x f lf (stps E) P far H near last) {a : Nat} (ha : a < H.length) (v : Nat) (hv : H[a].1 = (v : Int)) (he : far v = H[a].2) (hmin : ∀ e ∈ H, leD H[a].2 e.2) (hnr : (far v).1 ≤ near) :
    v ∉ P ∧ v < n ∧ Dij E n x f lf (fun u => if u = v then (stps E v).take 0 else stps E u) (v :: P) far (H.eraseIdx a) (if lf v < 0 then (far v).1 else near) (far v) ∧ far v ≠ infD ∧ (far v).2 ≤ P.length := by
  obtain ⟨v', hv', e1, hfi, hle, hla, hP⟩ := h.hp H[a] (List.getElem_mem ha)
  have : v' = v := by omega
  subst this
  have hvP : v' ∉ P := fun e => hP e he
  have hnn : (if lf v' < 0 then (far v').1 else near) ≤ near := by split <;> omega
  refine ⟨hvP, hv', ⟨List.nodup_cons.2 ⟨hvP, h.nd⟩, ?_, fun u hu hf => ?_, fun e hm => ?_, h.hn.eraseIdx _, fun u hu hf => ?_, fun u hu => ?_, fun u hu s hs ho => ?_, fun u hu hl => ?_, ?_, fun u hu hf => ?_, h.src⟩, hfi, (h.fin v' hv' hfi).2.2.2⟩
  · intro u hu
    rcases List.mem_cons.1 hu with rfl | hu
    · exact hv'
    · exact h.lt u hu
  · have := h.fin u hu hf
    simp only [List.length_cons]
    omega
  · have hm' := List.mem_of_mem_eraseIdx hm
    obtain ⟨u, hu, k1, k2, k3, _, k5⟩ := h.hp e hm'
    refine ⟨u, hu, k1, k2, k3, by rw [he]; exact hmin e hm', fun hP e2 => ?_⟩
    rcases List.mem_cons.1 hP with rfl | hP
    · have : e = H[a] := by
        obtain ⟨e1', e2'⟩ := e
        have h1 : H[a] = (H[a].1, H[a].2) := rfl
        rw [h1, hv, ← he, e2, ← k1]
      exact nodup_erase_ne h.hn ha hm this
    · exact k5 hP e2
  · by_cases e : u = v'
    · exact Or.inl (by simp [e])
    · rcases h.todo u hu hf with k | k
      · exact Or.inl (List.mem_cons_of_mem _ k)
      · refine Or.inr (mem_erase ha k fun e2 => e ?_)
        rw [← e2] at hv
        simp only at hv
        omega
  · rcases List.mem_cons.1 hu with rfl | hu
    · exact ⟨leD_refl _, hfi⟩
    · refine ⟨leD_trans (h.le u hu).1 ?_, (h.le u hu).2⟩
      rw [he]; exact hla
  · by_cases e : u = v'
    · subst e; simp at hs
    · simp only [if_neg e] at hs
      rcases List.mem_cons.1 hu with hu | hu
      · exact absurd hu e
      · exact h.rlx u hu s hs ho
  · rcases List.mem_cons.1 hu with rfl | hu
    · rw [if_pos hl]; exact Int.le_refl _
    · have := h.dfc u hu hl; omega
  · by_cases e : lf v' < 0
    · rw [if_pos e]; exact Or.inr ⟨v', by simp, e, rfl⟩
    · rw [if_neg e]
      exact h.nr.imp id fun ⟨t, ht, k⟩ => ⟨t, List.mem_cons_of_mem _ ht, k⟩
  · exact (h.pre u hu hf).imp id fun ⟨t, ht, k⟩ => ⟨t, List.mem_cons_of_mem _ ht, k⟩

variable {v j : Nat}
/-- A step that isn't taken. -/
theorem Dij.pass (h : Dij E n x f lf (fun u => if u = v then (stps E v).take j else stps E u) P far H near last) (hj : j < (stps E v).length) (hno : opn f (stps E v)[j] = true → leD (far (stps E v)[j].2.2.1) (lenS x (far v) (stps E v)[j])) :
    Dij E n x f lf (fun u => if u = v then (stps E v).take (j + 1) else stps E u) P far H near last := by
  refine ⟨h.nd, h.lt, h.fin, h.hp, h.hn, h.todo, h.le, fun u hu s hs ho => ?_, h.dfc, h.nr, h.pre, h.src⟩
  by_cases e : u = v
  · subst e
    simp only [if_true] at hs
    rw [List.take_succ_eq_append_getElem hj, List.mem_append] at hs
    rcases hs with hs | hs
    · exact h.rlx u hu s (by simpa using hs) ho
    · simp at hs
      subst hs
      exact hno ho
  · simp only [if_neg e] at hs
    exact h.rlx u hu s (by simpa [e] using hs) ho
/-- A step by which a node is nearer than was known. -/
theorem Dij.relax (hn : n ≤ 4096) (hF : Fits E n x f) (h : Dij E n x f lf (fun u => if u = v then (stps E v).take j else stps E u) P far H near (far v)) (hj : j < (stps E v).length) (hvP : v ∈ P) (hb : (far v).2 + 1 ≤ P.length)
    (ho : opn f (stps E v)[j] = true) (hlt : ltD (lenS x (far v) (stps E v)[j]) (far (stps E v)[j].2.2.1) = true) :
    (stps E v)[j].2.2.1 ≠ v ∧ Dij E n x f lf (fun u => if u = v then (stps E v).take (j + 1) else stps E u) P (fun u => if u = (stps E v)[j].2.2.1 then lenS x (far v) (stps E v)[j] else far u) (H ++ [(((stps E v)[j].2.2.1 : Int), lenS x (far v) (stps E v)[j])]) near (far v) := by
  have hs := List.getElem_mem hj
  have htk : (stps E v).take (j + 1) = (stps E v).take j ++ [(stps E v)[j]] := List.take_succ_eq_append_getElem hj
  generalize (stps E v)[j] = s at *
  obtain ⟨c1, c2, c3, c4, c5, c6, c7, c8⟩ := hF.step hs
  have hfv := (h.le v hvP).2
  obtain ⟨b1, b2, b3, b4⟩ := h.fin v c3 hfv
  generalize htd : s.2.2.1 = t at *
  generalize hdd : lenS x (far v) s = d at *
  have hd : d.1 = (far v).1 + slk x s ∧ d.2 = (far v).2 + (s.2.2.2 : Int) := by rw [← hdd]; exact ⟨rfl, rfl⟩
  have hled : leD (far v) d := by unfold leD; omega
  have htP : t ∉ P := fun e => by
    have h1 := (h.le t e).1
    have h2 := leD_lt (leD_trans h1 hled) hlt
    rw [ltD_iff] at h2; omega
  have htv : t ≠ v := fun e => htP (e ▸ hvP)
  have hnl : opn f s = true := ho
  have hbd : 0 ≤ d.1 ∧ d.1 ≤ x t + d.2 ∧ 0 ≤ d.2 ∧ d.2 ≤ P.length := by
    rcases Nat.lt_or_ge 0 s.2.2.2 with k | k
    · have k1 : s.2.2.2 = 1 := by omega
      obtain ⟨k2, _, k3⟩ := c8 k1
      have := k3 ho
      rw [k1] at hd
      omega
    · have k1 : s.2.2.2 = 0 := by omega
      obtain ⟨k2, _⟩ := c7 k1
      rw [k1] at hd
      omega
  have hdf : d ≠ infD := fun e => by
    have h2 := pigeon h.nd h.lt
    rw [e] at hbd
    simp only [infD] at hbd
    omega
  have hun : ∀ u, u ≠ t → (if u = t then d else far u) = far u := fun u e => if_neg e
  have hinP : ∀ u ∈ P, (if u = t then d else far u) = far u := fun u hu => hun u (fun e => htP (e ▸ hu))
  refine ⟨htv, ⟨h.nd, h.lt, fun u hu hf => ?_, fun e he => ?_, ?_, fun u hu hf => ?_, fun u hu => ?_, fun u hu s' hs' ho' => ?_, fun u hu hl => ?_, ?_, fun u hu hf => ?_, fun u hu hl => ?_⟩⟩
  · by_cases e : u = t
    · subst e; simp only [if_true]; exact hbd
    · simp only [if_neg e] at hf ⊢; exact h.fin u hu hf
  · rcases List.mem_append.1 he with he | he
    · obtain ⟨u, hu, k1, k2, k3, k4, k5⟩ := h.hp e he
      refine ⟨u, hu, k1, ?_, ?_, k4, fun hP => ?_⟩
      · by_cases e2 : u = t
        · subst e2; simp only [if_true]; exact hdf
        · simp only [if_neg e2]; exact k2
      · by_cases e2 : u = t
        · subst e2; simp only [if_true]; exact leD_trans (ltD_le hlt) k3
        · simp only [if_neg e2]; exact k3
      · rw [hinP u hP]; exact k5 hP
    · simp at he
      subst he
      refine ⟨t, c4, rfl, ?_, ?_, hled, fun hP => absurd hP htP⟩
      · simp only [if_true]; exact hdf
      · simp only [if_true]; exact leD_refl _
  · rw [List.nodup_append]
    refine ⟨h.hn, by simp, fun a ha b hb e => ?_⟩
    simp at hb
    subst hb
    subst e
    obtain ⟨u, hu, k1, k2, k3, _, _⟩ := h.hp _ ha
    simp only at k1 k3
    have : u = t := by omega
    subst this
    have := leD_lt k3 hlt
    rw [ltD_iff] at this; omega
  · by_cases e : u = t
    · subst e; simp only [if_true]; exact Or.inr (by simp)
    · simp only [if_neg e] at hf ⊢
      exact (h.todo u hu hf).imp id fun k => by simp [k]
  · rw [hinP u hu]; exact h.le u hu
  · rw [hinP u hu]
    have key : ∀ w, leD (if w = t then d else far w) (far w) := fun w => by
      by_cases e : w = t
      · subst e; simp only [if_true]; exact ltD_le hlt
      · simp only [if_neg e]; exact leD_refl _
    by_cases e : u = v
    · subst e
      simp only [if_true] at hs'
      rw [htk, List.mem_append] at hs'
      rcases hs' with hs' | hs'
      · exact leD_trans (key _) (h.rlx u hu s' (by simpa using hs') ho')
      · simp at hs'
        subst hs'
        rw [htd]
        simp only [if_true]
        rw [← hdd]
        exact leD_refl _
    · simp only [if_neg e] at hs'
      exact leD_trans (key _) (h.rlx u hu s' (by simpa [e] using hs') ho')
  · rw [hinP u hu]; exact h.dfc u hu hl
  · exact h.nr.imp id fun ⟨w, hw, k1, k2⟩ => ⟨w, hw, k1, by rw [hinP w hw]; exact k2⟩
  · by_cases e : u = t
    · subst e
      simp only [if_true]
      exact Or.inr ⟨v, hvP, s, hs, htd, ho, by rw [hinP v hvP]; exact hdd.symm⟩
    · simp only [if_neg e] at hf ⊢
      refine (h.pre u hu hf).imp id fun ⟨w, hw, s', k1, k2, k3, k4⟩ => ⟨w, hw, s', k1, k2, k3, ?_⟩
      rw [hinP w hw]; exact k4
  · by_cases e : u = t
    · subst e
      exfalso
      have := h.src u hu hl
      rw [this, ltD_iff] at hlt
      simp only at hlt
      omega
    · simp only [if_neg e]; exact h.src u hu hl
theorem Dij.all (h : Dij E n x f lf (fun u => if u = v then (stps E v).take (stps E v).length else stps E u) P far H near last) : Dij E n x f lf (stps E) P far H near last := by
  have e : (fun u => if u = v then (stps E v).take (stps E v).length else stps E u) = stps E := by
    funext u
    by_cases e : u = v
    · subst e; simp
    · simp [e]
  rw [e] at h
  exact h
end

/-- What the search has found. -/
structure Found (E : EndL) (n : Nat) (x f lf : Nat → Int) (far : Nat → Dst) (near : Int) : Prop where
  fin : ∀ v, v < n → far v ≠ infD → 0 ≤ (far v).1 ∧ (far v).1 ≤ x v + (far v).2 ∧ 0 ≤ (far v).2 ∧ (far v).2 ≤ n
  rlx : ∀ v, v < n → (far v).1 ≤ near → far v ≠ infD → ∀ s ∈ stps E v, opn f s = true → leD (far s.2.2.1) (lenS x (far v) s)
  dfc : ∀ v, v < n → lf v < 0 → near ≤ (far v).1
  nr : near = 9223372036854775807 ∨ ∃ t, t < n ∧ lf t < 0 ∧ (far t).1 = near ∧ far t ≠ infD
  pre : ∀ v, v < n → far v ≠ infD → (0 < lf v ∧ far v = (0, 0)) ∨ ∃ u, u < n ∧ far u ≠ infD ∧ ∃ s ∈ stps E u, s.2.2.1 = v ∧ opn f s = true ∧ far v = lenS x (far u) s
  src : ∀ v, v < n → 0 < lf v → far v = (0, 0)
  n0 : 0 ≤ near ∧ near ≤ 9223372036854775807
section
variable {E : EndL} {n : Nat} {x f lf : Nat → Int} {P : List Nat} {far : Nat → Dst} {H : List (Int × Int × Int)} {near : Int} {last : Dst}
theorem Dij.nearB (h : Dij E n x f lf (stps E) P far H near last) (hn : n ≤ 4096) (hx : ∀ v, v < n → x v ≤ 4096) : 0 ≤ near ∧ near ≤ 9223372036854775807 := by
  rcases h.nr with e | ⟨t, ht, _, e⟩
  · omega
  · have h1 := h.fin t (h.lt t ht) (h.le t ht).2
    have h2 := pigeon h.nd h.lt
    have := hx t (h.lt t ht)
    omega
/-- All that is left in the heap is farther than near. -/
theorem Dij.found (h : Dij E n x f lf (stps E) P far H near last) (hn : n ≤ 4096) (hx : ∀ v, v < n → x v ≤ 4096) (hH : ∀ e ∈ H, near < e.2.1) : Found E n x f lf far near := by
  have hlen := pigeon h.nd h.lt
  refine ⟨fun v hv hf => by have := h.fin v hv hf; omega, fun v hv hle hf s hs ho => ?_, fun v hv hl => ?_, ?_, fun v hv hf => ?_, h.src, h.nearB hn hx⟩
  · rcases h.todo v hv hf with k | k
    · exact h.rlx v k s hs ho
    · have := hH _ k; simp only at this; omega
  · by_cases hf : far v = infD
    · rw [hf]; have := (h.nearB hn hx).2; simpa [infD] using this
    · rcases h.todo v hv hf with k | k
      · exact h.dfc v k hl
      · have := hH _ k; simp only at this; omega
  · exact h.nr.imp id fun ⟨t, ht, k1, k2⟩ => ⟨t, h.lt t ht, k1, k2, (h.le t ht).2⟩
  · exact (h.pre v hv hf).imp id fun ⟨u, hu, k⟩ => ⟨u, h.lt u hu, (h.le u hu).2, k⟩
end

/-! How many steps there are. -/
def degS (E : EndL) : List Nat → List Nat → Nat
  | [], _ => 0
  | a :: l, P => (if a ∈ P then 0 else (stps E a).length) + degS E l P
theorem degS_no (E : EndL) {v : Nat} {P : List Nat} : ∀ l : List Nat, v ∉ l → degS E l P = degS E l (v :: P) := by
  intro l
  induction l with
  | nil => intro _; rfl
  | cons a l ih =>
    intro h
    have h1 : ¬ a = v := fun e => h (by simp [e])
    have h2 := ih (fun e => h (by simp [e]))
    simp only [degS, List.mem_cons, h1, false_or, h2]
theorem degS_cons (E : EndL) {v : Nat} {P : List Nat} (hv : v ∉ P) : ∀ l : List Nat, l.Nodup → v ∈ l → degS E l P = degS E l (v :: P) + (stps E v).length := by
  intro l
  induction l with
  | nil => intro _ h; simp at h
  | cons a l ih =>
    intro hn h
    have hn' := List.nodup_cons.1 hn
    by_cases e : a = v
    · subst e
      have h2 := degS_no E (P := P) l hn'.1
      simp only [degS, hv, if_false, List.mem_cons, true_or, if_true, h2]
      omega
    · have hm : v ∈ l := by
        rcases List.mem_cons.1 h with h | h
        · exact absurd h.symm e
        · exact h
      have h2 := ih hn'.2 hm
      simp only [degS, List.mem_cons, e, false_or, h2]
      omega
theorem degS_nil (E : EndL) : ∀ l : List Nat, degS E l [] = (l.map fun u => (stps E u).length).sum := by
  intro l
  induction l with
  | nil => rfl
  | cons a l ih => simp [degS, ih]
theorem stpsK_sum (E : EndL) (n : Nat) : ∀ k, ((List.range n).map fun u => (stpsK E k u).length).sum ≤ 2 * k := by
  intro k
  induction k with
  | zero =>
    have : ∀ l : List Nat, (l.map fun _ => 0).sum = 0 := by
      intro l
      induction l with
      | nil => rfl
      | cons a l ih => simp [ih]
    simp [stpsK, this]
  | succ k ih =>
    have e : ((List.range n).map fun u => (stpsK E (k + 1) u).length) = (List.range n).map fun u => (stpsK E k u).length + (stpA u k (E.getD k (0, 0))).length := by
      refine List.map_congr_left fun u _ => ?_
      rw [stpsK_succ, List.length_append]
    have split : ∀ (A B : Nat → Nat) (l : List Nat), (l.map fun v => A v + B v).sum = (l.map A).sum + (l.map B).sum := by
      intro A B l
      induction l with
      | nil => rfl
      | cons a l ih => simp only [List.map_cons, List.sum_cons, ih]; omega
    have ind : ∀ (b : Nat) (m : Nat), ((List.range m).map fun u => if b = u then 1 else 0).sum ≤ 1 := by
      intro b m
      have z : ∀ m, m ≤ b → ((List.range m).map fun u => if b = u then 1 else 0).sum = 0 := by
        intro m
        induction m with
        | zero => intro _; simp
        | succ m ih =>
          intro h
          rw [List.range_succ, List.map_append, List.sum_append, ih (by omega)]
          simp; omega
      induction m with
      | zero => simp
      | succ m ih =>
        rw [List.range_succ, List.map_append, List.sum_append]
        by_cases e : b = m
        · subst e; rw [z b (Nat.le_refl _)]; simp
        · simp [e]; exact ih
    rw [e, split]
    have h1 : ((List.range n).map fun u => (stpA u k (E.getD k (0, 0))).length) = (List.range n).map fun u => (if (E.getD k (0, 0)).1 = u then 1 else 0) + (if (E.getD k (0, 0)).2 = u then 1 else 0) := by
      refine List.map_congr_left fun u _ => ?_
      unfold stpA
      split <;> split <;> simp
    rw [h1, split]
    have h2 := ind (E.getD k (0, 0)).1 n
    have h3 := ind (E.getD k (0, 0)).2 n
    omega
theorem degS_all (E : EndL) (n : Nat) : degS E (List.range n) [] ≤ 2 * E.length := by
  rw [degS_nil]
  exact stpsK_sum E n E.length
end Go.Proofs.Ytkloaekmjnbacaa.DagM
