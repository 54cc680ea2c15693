/-
  Ways from what has something left to where something is missing: levels, the search of one way after the other, nodes that lead nowhere, what flows along a way. Conditions: none.
-/
import Derived.Test.YtkloaekmjnbacaaNetS
namespace Go.Proofs.Ytkloaekmjnbacaa.DagM

/-- A step by which a way may go on. -/
def adm (x f : Nat → Int) (far : Nat → Dst) (s : Stp) : Bool := opn f s && decide (slk x s = 0) && decide ((far s.2.2.1).2 = (far s.2.1).2 + (s.2.2.2 : Int))
theorem adm_iff {x f : Nat → Int} {far : Nat → Dst} {s : Stp} : adm x f far s = true ↔ opn f s = true ∧ slk x s = 0 ∧ (far s.2.2.1).2 = (far s.2.1).2 + (s.2.2.2 : Int) := by
  unfold adm
  simp [and_assoc]
/-- Levels: nodes that are near have a step ahead of them by which a way comes there, or have something left themselves. -/
structure Lev (_E : EndL) (n : Nat) (_x _f lf : Nat → Int) (far : Nat → Dst) (_near : Int) : Prop where
  fin : ∀ v, v < n → far v ≠ infD → 0 ≤ (far v).2 ∧ (far v).2 ≤ n
  src : ∀ v, v < n → 0 < lf v → far v = (0, 0)
structure LevP (E : EndL) (n : Nat) (x f lf : Nat → Int) (far : Nat → Dst) (near : Int) : Prop where
  nr : ∃ t, t < n ∧ lf t < 0 ∧ (far t).1 ≤ near
  pre : ∀ v, v < n → (far v).1 ≤ near → 0 < lf v ∨ ∃ u, u < n ∧ (far u).1 ≤ near ∧ ∃ s ∈ stps E u, s.2.2.1 = v ∧ adm x f far s = true
def pot (n : Nat) (x : Nat → Int) (far : Nat → Dst) (v : Nat) : Int := (far v).2 * (4 * (n : Int) + 4) + (x v + 2 * (n : Int))
def deadN (E : EndL) (lf : Nat → Int) (tr : Nat → Nat) (u : Nat) : Prop := tr u = (stps E u).length ∧ 0 ≤ lf u
/-- All steps that were tried lead nowhere. -/
def DeadI (E : EndL) (n : Nat) (x f lf : Nat → Int) (far : Nat → Dst) (tr : Nat → Nat) : Prop := ∀ v, v < n → ∀ j, j < tr v → ∀ s, (stps E v)[j]? = some s → adm x f far s = true → deadN E lf tr s.2.2.1
section
variable {E : EndL} {n : Nat} {wt x0 x f lf : Nat → Int} {tot D tk near : Int} {far : Nat → Dst} {tr tr0 : Nat → Nat} {W : List Stp} {a v : Nat}
theorem Found.lev (k : Found E n x f lf far near) (hF : Fits E n x f) (hne : near ≠ 9223372036854775807) : Lev E n (fun v => x v - min (far v).1 near) f lf far near ∧ LevP E n (fun v => x v - min (far v).1 near) f lf far near := by
  have hn0 := k.n0
  have nin : ∀ v, (far v).1 ≤ near → far v ≠ infD := fun v hv e => by rw [e] at hv; simp only [infD] at hv; omega
  refine ⟨⟨fun v hv hf => by have := k.fin v hv hf; omega, k.src⟩, ?_, fun v hv hle => ?_⟩
  · rcases k.nr with e | ⟨t, h1, h2, h3, _⟩
    · exact absurd e hne
    · exact ⟨t, h1, h2, by omega⟩
  · rcases k.pre v hv (nin v hle) with ⟨h1, _⟩ | ⟨u, hu, huf, s, hs, h1, h2, h3⟩
    · exact Or.inl h1
    · obtain ⟨c1, c2, c3, c4, c5, c6, c7, c8⟩ := hF.step hs
      have e1 : (far v).1 = (far u).1 + slk x s := by rw [h3]; rfl
      have e2 : (far v).2 = (far u).2 + (s.2.2.2 : Int) := by rw [h3]; rfl
      refine Or.inr ⟨u, hu, by omega, s, hs, h1, adm_iff.2 ⟨h2, ?_, by rw [h1, c2]; exact e2⟩⟩
      rcases Nat.lt_or_ge 0 s.2.2.2 with q | q
      · simp [slk, q]
      · have q0 : s.2.2.2 = 0 := by omega
        have := (c7 q0).1
        rw [h1] at this
        simp only [slk, q0, Nat.lt_irrefl, if_false, h1, c2]
        omega
theorem adm_pot (hF : Fits E n x f) {u : Nat} {s : Stp} (hs : s ∈ stps E u) (ha : adm x f far s = true) : pot n x far u + 1 ≤ pot n x far s.2.2.1 ∧ ((far s.2.2.1).2 = (far u).2 ∨ (far s.2.2.1).2 = (far u).2 + 1) := by
  obtain ⟨c1, c2, c3, c4, c5, c6, c7, c8⟩ := hF.step hs
  obtain ⟨h1, h2, h3⟩ := adm_iff.1 ha
  rw [c2] at h3
  unfold pot
  rcases Nat.lt_or_ge 0 s.2.2.2 with q | q
  · have q1 : s.2.2.2 = 1 := by omega
    have := (c8 q1).2.2 h1
    rw [q1] at h3
    rw [h3, Int.add_mul, this]
    refine ⟨?_, Or.inr (by simp)⟩
    simp only [Int.natCast_one, Int.one_mul]
    omega
  · have q0 : s.2.2.2 = 0 := by omega
    have := (c7 q0).1
    rw [q0] at h3
    simp only [Int.natCast_zero, Int.add_zero] at h3
    rw [h3]
    refine ⟨by omega, Or.inl rfl⟩

/-- The k-th node of a way from a. -/
def nodeAt (a : Nat) (W : List Stp) : Nat → Nat
  | 0 => a
  | k + 1 => (W.getD k (0, 0, 0, 0)).2.2.1
theorem nodeAt_succ (a : Nat) (W : List Stp) (k : Nat) : nodeAt a W (k + 1) = (W.getD k (0, 0, 0, 0)).2.2.1 := rfl
theorem nodeAt_app (a : Nat) (W : List Stp) (s : Stp) : ∀ k, k ≤ W.length → nodeAt a (W ++ [s]) k = nodeAt a W k
  | 0, _ => rfl
  | k + 1, h => by
    rw [nodeAt_succ, nodeAt_succ, List.getD_eq_getElem?_getD, List.getD_eq_getElem?_getD, List.getElem?_append_left (by omega)]
/-- A way from a to v; each node's tried step is the way's. -/
structure Way (E : EndL) (n : Nat) (x f : Nat → Int) (far : Nat → Dst) (tr : Nat → Nat) (a : Nat) (W : List Stp) (v : Nat) : Prop where
  mem : ∀ s ∈ W, s ∈ stps E s.2.1 ∧ adm x f far s = true
  lnk : ∀ k (h : k < W.length), W[k].2.1 = nodeAt a W k
  fin : nodeAt a W W.length = v
  cur : ∀ s ∈ W, (stps E s.2.1)[tr s.2.1]? = some s
theorem Way.nil : Way E n x f far tr a [] a := ⟨by simp, fun k h => absurd h (by simp), rfl, by simp⟩
theorem Way.pots (h : Way E n x f far tr a W v) (hF : Fits E n x f) (i : Nat) : ∀ d, i + d ≤ W.length → pot n x far (nodeAt a W i) + (d : Int) ≤ pot n x far (nodeAt a W (i + d))
  | 0, _ => by simp
  | d + 1, hd => by
    have ih := Way.pots h hF i d (by omega)
    have hk : i + d < W.length := by omega
    have hm := h.mem W[i + d] (List.getElem_mem hk)
    have hp := (adm_pot hF hm.1 hm.2).1
    rw [h.lnk (i + d) hk] at hp
    have e : nodeAt a W (i + (d + 1)) = W[i + d].2.2.1 := by
      show nodeAt a W ((i + d) + 1) = _
      rw [nodeAt_succ, List.getD_eq_getElem?_getD, List.getElem?_eq_getElem hk]
      rfl
    rw [e]
    push_cast
    omega
/-- The nodes of a way are different ones. -/
theorem Way.apart (h : Way E n x f far tr a W v) (hF : Fits E n x f) {i j : Nat} (hi : i < j) (hj : j ≤ W.length) : nodeAt a W i ≠ nodeAt a W j := by
  intro e
  have := h.pots hF i (j - i) (by omega)
  rw [show i + (j - i) = j by omega, ← e] at this
  omega
theorem Way.apartF (h : Way E n x f far tr a W v) (hF : Fits E n x f) {i j : Nat} (hi : i < W.length) (hj : j < W.length) (e : W[i].2.1 = W[j].2.1) : i = j := by
  rw [h.lnk i hi, h.lnk j hj] at e
  rcases Nat.lt_trichotomy i j with k | k | k
  · exact absurd e (h.apart hF k (by omega))
  · exact k
  · exact absurd e.symm (h.apart hF k (by omega))
theorem Way.off (h : Way E n x f far tr a W v) (hF : Fits E n x f) : ∀ s ∈ W, s.2.1 ≠ v := by
  intro s hs
  obtain ⟨k, hk, rfl⟩ := List.mem_iff_getElem.1 hs
  rw [h.lnk k hk, ← h.fin]
  exact h.apart hF hk (Nat.le_refl _)
theorem Way.len (h : Way E n x f far tr a W v) (hF : Fits E n x f) : pot n x far a + (W.length : Int) ≤ pot n x far v := by
  have := h.pots hF 0 W.length (by omega)
  rw [Nat.zero_add, h.fin] at this
  exact this
theorem Way.push (h : Way E n x f far tr a W v) (hF : Fits E n x f) {t : Nat} {s : Stp} (hs : (stps E v)[t]? = some s) (ha : adm x f far s = true) : Way E n x f far (fun u => if u = v then t else tr u) a (W ++ [s]) s.2.2.1 := by
  have hm : s ∈ stps E v := List.mem_of_getElem? hs
  have hv : s.2.1 = v := (hF.step hm).2.1
  have hoff := h.off hF
  refine ⟨fun s' hs' => ?_, fun k hk => ?_, ?_, fun s' hs' => ?_⟩
  · rcases List.mem_append.1 hs' with k | k
    · exact h.mem s' k
    · simp at k
      subst k
      exact ⟨by rw [hv]; exact hm, ha⟩
  · simp only [List.length_append, List.length_cons, List.length_nil] at hk
    rw [nodeAt_app a W s k (by omega)]
    by_cases e : k < W.length
    · rw [List.getElem_append_left e]
      exact h.lnk k e
    · have : k = W.length := by omega
      subst this
      rw [h.fin]
      simpa using hv
  · simp [nodeAt]
  · rcases List.mem_append.1 hs' with k | k
    · rw [if_neg (hoff s' k)]
      exact h.cur s' k
    · simp at k
      subst k
      rw [hv, if_pos rfl]
      exact hs
theorem Way.stay (h : Way E n x f far tr a W v) (hF : Fits E n x f) (t : Nat) : Way E n x f far (fun u => if u = v then t else tr u) a W v :=
  ⟨h.mem, h.lnk, h.fin, fun s hs => by rw [if_neg (h.off hF s hs)]; exact h.cur s hs⟩
/-- A step back: the last step is taken away. -/
theorem Way.pop {s : Stp} (h : Way E n x f far tr a (W ++ [s]) v) (hF : Fits E n x f) : s.2.2.1 = v ∧ (stps E s.2.1)[tr s.2.1]? = some s ∧ adm x f far s = true ∧ s ∈ stps E s.2.1 ∧ Way E n x f far (fun u => if u = s.2.1 then tr s.2.1 + 1 else tr u) a W s.2.1 := by
  have hs : s ∈ W ++ [s] := by simp
  have hW : Way E n x f far tr a W s.2.1 := by
    refine ⟨fun s' k => h.mem s' (by simp [k]), fun k hk => ?_, ?_, fun s' k => h.cur s' (by simp [k])⟩
    · have := h.lnk k (by simp; omega)
      rw [nodeAt_app a W s k (by omega), List.getElem_append_left hk] at this
      exact this
    · have := h.lnk W.length (by simp)
      rw [nodeAt_app a W s _ (Nat.le_refl _)] at this
      simpa using this.symm
  refine ⟨?_, h.cur s hs, (h.mem s hs).2, (h.mem s hs).1, hW.stay hF _⟩
  have := h.fin
  simp [nodeAt] at this
  exact this

/-- Where find stands. -/
structure FindI (E : EndL) (n : Nat) (x f lf : Nat → Int) (far : Nat → Dst) (tr0 tr : Nat → Nat) (a : Nat) (W : List Stp) (v : Nat) : Prop where
  way : Way E n x f far tr a W v
  vn : v < n
  fv : far v ≠ infD
  le : ∀ u, u < n → tr u ≤ (stps E u).length
  dead : DeadI E n x f lf far tr0 → DeadI E n x f lf far tr
theorem Lev.to (hF : Fits E n x f) (hn : n ≤ 4096) (hl : Lev E n x f lf far near) {u : Nat} {s : Stp} (hu : u < n) (hs : s ∈ stps E u) (ha : adm x f far s = true) : far u ≠ infD ↔ far s.2.2.1 ≠ infD := by
  obtain ⟨c1, c2, c3, c4, c5, _⟩ := hF.step hs
  obtain ⟨_, _, h3⟩ := adm_iff.1 ha
  rw [c2] at h3
  constructor
  · intro h e
    have := hl.fin u hu h
    rw [e] at h3
    simp only [infD] at h3
    omega
  · intro h e
    have := hl.fin s.2.2.1 c4 h
    rw [e] at h3
    simp only [infD] at h3
    omega
theorem FindI.start (hl : Lev E n x f lf far near) (ha : a < n) (hs : 0 < lf a) (hle : ∀ u, u < n → tr u ≤ (stps E u).length) : FindI E n x f lf far tr tr a [] a :=
  ⟨Way.nil, ha, by rw [hl.src a ha hs]; simp [infD], hle, id⟩
/-- Steps that may not be taken are passed over. -/
theorem DeadI.over (h : DeadI E n x f lf far tr) (hv : v < n) {t : Nat} (hno : ∀ i, tr v ≤ i → i < t → ∀ s, (stps E v)[i]? = some s → adm x f far s = false) (hle : tr v ≤ t) (ht : t ≤ (stps E v).length) : DeadI E n x f lf far (fun u => if u = v then t else tr u) := by
  have up : ∀ u, deadN E lf tr u → deadN E lf (fun u => if u = v then t else tr u) u := fun u hd => by
    refine ⟨?_, hd.2⟩
    by_cases e : u = v
    · subst e
      simp only [if_true]
      have := hd.1
      omega
    · simp only [if_neg e]; exact hd.1
  intro u hu j hj s hs ha
  by_cases e : u = v
  · subst e
    simp only [if_true] at hj
    by_cases k : j < tr u
    · exact up _ (h u hu j k s hs ha)
    · have := hno j (by omega) hj s hs
      rw [this] at ha; cases ha
  · simp only [if_neg e] at hj
    exact up _ (h u hu j hj s hs ha)
theorem FindI.found (hF : Fits E n x f) (hn : n ≤ 4096) (hl : Lev E n x f lf far near) (h : FindI E n x f lf far tr0 tr a W v) {t : Nat} {s : Stp} (hs : (stps E v)[t]? = some s) (ha : adm x f far s = true) (hle : tr v ≤ t)
    (hno : ∀ i, tr v ≤ i → i < t → ∀ s, (stps E v)[i]? = some s → adm x f far s = false) : FindI E n x f lf far tr0 (fun u => if u = v then t else tr u) a (W ++ [s]) s.2.2.1 := by
  have ht : t < (stps E v).length := (List.getElem?_eq_some_iff.1 hs).1
  have hm : s ∈ stps E v := List.mem_of_getElem? hs
  refine ⟨h.way.push hF hs ha, (hF.step hm).2.2.2.1, (Lev.to hF hn hl h.vn hm ha).1 h.fv, fun u hu => ?_, fun k => (h.dead k).over h.vn hno hle (by omega)⟩
  by_cases e : u = v
  · subst e; simp only [if_true]; omega
  · simp only [if_neg e]; exact h.le u hu
theorem FindI.none (hF : Fits E n x f) (h : FindI E n x f lf far tr0 tr a W v) (hno : ∀ i, tr v ≤ i → i < (stps E v).length → ∀ s, (stps E v)[i]? = some s → adm x f far s = false) : FindI E n x f lf far tr0 (fun u => if u = v then (stps E v).length else tr u) a W v := by
  refine ⟨h.way.stay hF _, h.vn, h.fv, fun u hu => ?_, fun k => (h.dead k).over h.vn hno (h.le v h.vn) (Nat.le_refl _)⟩
  by_cases e : u = v
  · subst e; simp
  · simp only [if_neg e]; exact h.le u hu
theorem FindI.pop {s : Stp} (hF : Fits E n x f) (hn : n ≤ 4096) (hl : Lev E n x f lf far near) (h : FindI E n x f lf far tr0 tr a (W ++ [s]) v) (hv : tr v = (stps E v).length) (h0 : 0 ≤ lf v) :
    tr s.2.1 < (stps E s.2.1).length ∧ s.2.1 < n ∧ FindI E n x f lf far tr0 (fun u => if u = s.2.1 then tr s.2.1 + 1 else tr u) a W s.2.1 := by
  obtain ⟨e1, e2, e3, e4, e5⟩ := h.way.pop hF
  have hlt : tr s.2.1 < (stps E s.2.1).length := (List.getElem?_eq_some_iff.1 e2).1
  have hsn : s.2.1 < n := (hF.step e4).2.2.1
  have hne : s.2.1 ≠ v := h.way.off hF s (by simp)
  refine ⟨hlt, hsn, e5, hsn, (Lev.to hF hn hl hsn e4 e3).2 (by rw [e1]; exact h.fv), fun u hu => ?_, fun k => ?_⟩
  · by_cases e : u = s.2.1
    · subst e; simp only [if_true]; omega
    · simp only [if_neg e]; exact h.le u hu
  · have hd := h.dead k
    have up : ∀ u, deadN E lf tr u → deadN E lf (fun u => if u = s.2.1 then tr s.2.1 + 1 else tr u) u := fun u q => by
      refine ⟨?_, q.2⟩
      by_cases e : u = s.2.1
      · subst e; have := q.1; omega
      · simp only [if_neg e]; exact q.1
    intro u hu j hj s' hs' ha
    by_cases e : u = s.2.1
    · subst e
      simp only [if_true] at hj
      by_cases q : j < tr s.2.1
      · exact up _ (hd s.2.1 hu j q s' hs' ha)
      · have : j = tr s.2.1 := by omega
        subst this
        rw [e2] at hs'
        simp only [Option.some.injEq] at hs'
        subst hs'
        rw [e1]
        exact up _ ⟨hv, h0⟩
    · simp only [if_neg e] at hj
      exact up _ (hd u hu j hj s' hs' ha)
/-- If all that have something left lead nowhere, nothing does: but something is near. -/
theorem dead_no (hF : Fits E n x f) (hx : ∀ v, v < n → -(2 * (n : Int)) ≤ x v) (hn : n ≤ 4096) (hl : Lev E n x f lf far near) (hp : LevP E n x f lf far near) (hnr : near < 9223372036854775807) (hd : DeadI E n x f lf far tr) (hs : ∀ v, v < n → 0 < lf v → deadN E lf tr v) : False := by
  have nin : ∀ v, (far v).1 ≤ near → far v ≠ infD := fun v hv e => by rw [e] at hv; simp only [infD] at hv; omega
  have p0 : ∀ v, v < n → (far v).1 ≤ near → 0 ≤ pot n x far v := fun v hv hle => by
    have h1 := (hl.fin v hv (nin v hle)).1
    have h2 := hx v hv
    have h3 : 0 ≤ (far v).2 * (4 * (n : Int) + 4) := Int.mul_nonneg h1 (by omega)
    unfold pot
    omega
  have go : ∀ (m : Nat) v, v < n → (far v).1 ≤ near → pot n x far v ≤ m → deadN E lf tr v := by
    intro m
    induction m with
    | zero =>
      intro v hv hle hpo
      rcases hp.pre v hv hle with h | ⟨u, hu, hule, s, hs', h1, h2⟩
      · exact hs v hv h
      · have := (adm_pot hF hs' h2).1
        rw [h1] at this
        have := p0 u hu hule
        omega
    | succ m ih =>
      intro v hv hle hpo
      rcases hp.pre v hv hle with h | ⟨u, hu, hule, s, hs', h1, h2⟩
      · exact hs v hv h
      · have h3 := (adm_pot hF hs' h2).1
        rw [h1] at h3
        have h4 := ih u hu hule (by push_cast at hpo; omega)
        obtain ⟨j, hj, rfl⟩ := List.mem_iff_getElem.1 hs'
        have h5 := hd u hu j (by rw [h4.1]; exact hj) _ (List.getElem?_eq_getElem hj) h2
        rw [h1] at h5
        exact h5
  obtain ⟨t, ht, hlt, hle⟩ := hp.nr
  have := go (pot n x far t).toNat t ht hle (by have := p0 t ht hle; omega)
  have := this.2
  omega
theorem pot_near (g : n ≤ 4096) (hx : ∀ v, v < n → -(2 * (n : Int)) ≤ x v ∧ x v ≤ n) (hl : Lev E n x f lf far near) (hv : v < n) (hf : far v ≠ infD) : 0 ≤ pot n x far v ∧ pot n x far v ≤ 80000000 := by
  obtain ⟨h1, h2⟩ := hl.fin v hv hf
  have h3 := hx v hv
  have h4 : 0 ≤ (far v).2 * (4 * (n : Int) + 4) := Int.mul_nonneg h1 (by omega)
  have h5 : (far v).2 * (4 * (n : Int) + 4) ≤ 4096 * 16388 := Int.mul_le_mul (by omega) (by omega) (by omega) (by omega)
  unfold pot
  omega

/-! What flows along a way. -/
/-- Behind the first k steps. -/
structure Took (E : EndL) (n : Nat) (x f0 f : Nat → Int) (much : Int) (a : Nat) (W : List Stp) (k : Nat) : Prop where
  fits : Fits E n x f
  net : ∀ v, netE E f v = netE E f0 v + ((if v = a then much else 0) - (if v = nodeAt a W k then much else 0))
  up : ∀ i, i < E.length → f i ≤ f0 i + much
  bk : ∀ j (h : j < W.length), k ≤ j → (W[j].2.2.2 = 1 → f0 W[j].1 ≤ f W[j].1) ∧ (W[j].2.2.2 = 0 → f W[j].1 ≤ f0 W[j].1)
theorem Took.start {much : Int} (hF : Fits E n x f) (h0 : 0 ≤ much) : Took E n x f f much a W 0 :=
  ⟨hF, fun v => by simp [nodeAt]; omega, fun i _ => by omega, fun _ _ _ => ⟨fun _ => Int.le_refl _, fun _ => Int.le_refl _⟩⟩
theorem Took.step {f0 : Nat → Int} {much : Int} {k : Nat} (hF0 : Fits E n x f0) (hW : Way E n x f0 far tr a W v) (hm : 0 < much) (hb : ∀ s ∈ W, s.2.2.2 = 1 → much ≤ f0 s.1) (h : Took E n x f0 f much a W k) (hk : k < W.length) :
    Took E n x f0 (fun i => if i = W[k].1 then (if W[k].2.2.2 = 0 then f W[k].1 + much else f W[k].1 - much) else f i) much a W (k + 1) := by
  have hs := List.getElem_mem hk
  obtain ⟨hmem, hadm⟩ := hW.mem _ hs
  have hl := hW.lnk k hk
  have hbk := h.bk k hk (Nat.le_refl _)
  have hnx : nodeAt a W (k + 1) = W[k].2.2.1 := by
    rw [nodeAt_succ, List.getD_eq_getElem?_getD, List.getElem?_eq_getElem hk]
    rfl
  have later : ∀ j (hj : j < W.length), k + 1 ≤ j → W[j].1 = W[k].1 → W[j].2.2.2 ≠ W[k].2.2.2 := fun j hj hkj e1 e2 => by
    have hmj := (hW.mem _ (List.getElem_mem hj)).1
    obtain ⟨d1, d2, d3, d4, d5, d6, d7, d8⟩ := hF0.step hmj
    obtain ⟨c1, c2, c3, c4, c5, c6, c7, c8⟩ := hF0.step hmem
    have : W[j].2.1 = W[k].2.1 := by
      rcases Nat.lt_or_ge 0 W[k].2.2.2 with q | q
      · have q1 : W[k].2.2.2 = 1 := by omega
        have a1 := (c8 q1).2.1
        have a2 := (d8 (by omega)).2.1
        rw [e1, a1] at a2
        simp only [Prod.mk.injEq] at a2
        exact a2.2.symm
      · have q1 : W[k].2.2.2 = 0 := by omega
        have a1 := (c7 q1).2
        have a2 := (d7 (by omega)).2
        rw [e1, a1] at a2
        simp only [Prod.mk.injEq] at a2
        exact a2.1.symm
    have := hW.apartF hF0 hj hk this
    omega
  have hbs := hb _ hs
  have hnet := h.net
  rw [← hl] at hnet
  obtain ⟨c1, c2, c3, c4, c5, c6, c7, c8⟩ := hF0.step hmem
  obtain ⟨o1, o2, _⟩ := adm_iff.1 hadm
  have hti := hF0.ti W[k].1 c1
  have hup := h.up W[k].1 c1
  have hnn := h.fits.nn W[k].1 c1
  rcases Nat.lt_or_ge 0 W[k].2.2.2 with q | q
  · have q1 : W[k].2.2.2 = 1 := by omega
    have q0 : ¬ W[k].2.2.2 = 0 := by omega
    simp only [if_neg q0]
    have hge := hbk.1 q1
    have hbb := hbs q1
    obtain ⟨_, hE, _⟩ := c8 q1
    have htx := hti (by omega)
    rw [hE] at htx
    simp only at htx
    refine ⟨⟨hF0.ends, hF0.fit, fun i hi => ?_, fun i hi hfi => ?_⟩, fun v => ?_, fun i hi => ?_, fun j hj hkj => ?_⟩
    · by_cases e : i = W[k].1
      · subst e; simp only [if_true]; omega
      · simp only [if_neg e]; exact h.fits.nn i hi
    · by_cases e : i = W[k].1
      · subst e; rw [hE]; exact htx
      · simp only [if_neg e] at hfi; exact h.fits.ti i hi hfi
    · have hu := netK_upd E f W[k].1 (f W[k].1 - much) v E.length
      rw [if_pos c1] at hu
      unfold netE at hnet ⊢
      rw [hu, hnet v, hE, hnx]
      simp only
      by_cases e1 : W[k].2.2.1 = v
      · by_cases e2 : W[k].2.1 = v
        · have := hW.off hF0
          rw [if_pos e1, if_pos e2, if_pos e2.symm, if_pos e1.symm]; omega
        · have e3 : ¬ v = W[k].2.1 := fun e => e2 e.symm
          rw [if_pos e1, if_neg e2, if_neg e3, if_pos e1.symm]; omega
      · have e4 : ¬ v = W[k].2.2.1 := fun e => e1 e.symm
        by_cases e2 : W[k].2.1 = v
        · rw [if_neg e1, if_pos e2, if_pos e2.symm, if_neg e4]; omega
        · have e3 : ¬ v = W[k].2.1 := fun e => e2 e.symm
          rw [if_neg e1, if_neg e2, if_neg e3, if_neg e4]; omega
    · by_cases e : i = W[k].1
      · subst e; simp only [if_true]; omega
      · simp only [if_neg e]; exact h.up i hi
    · have hb2 := h.bk j hj (by omega)
      by_cases e : W[j].1 = W[k].1
      · have hl2 := later j hj hkj e
        rw [e] at hb2 ⊢
        simp only [if_true]
        refine ⟨fun e2 => absurd (e2.trans q1.symm) hl2, fun e2 => ?_⟩
        have := hb2.2 e2
        omega
      · simp only [if_neg e]
        exact hb2
  · have q0 : W[k].2.2.2 = 0 := by omega
    simp only [if_pos q0]
    have hle := hbk.2 q0
    obtain ⟨hsl, hE⟩ := c7 q0
    rw [o2] at hsl
    refine ⟨⟨hF0.ends, hF0.fit, fun i hi => ?_, fun i hi hfi => ?_⟩, fun v => ?_, fun i hi => ?_, fun j hj hkj => ?_⟩
    · by_cases e : i = W[k].1
      · subst e; simp only [if_true]; omega
      · simp only [if_neg e]; exact h.fits.nn i hi
    · by_cases e : i = W[k].1
      · subst e; rw [hE]; simp only; omega
      · simp only [if_neg e] at hfi; exact h.fits.ti i hi hfi
    · have hu := netK_upd E f W[k].1 (f W[k].1 + much) v E.length
      rw [if_pos c1] at hu
      unfold netE at hnet ⊢
      rw [hu, hnet v, hE, hnx]
      simp only
      by_cases e1 : W[k].2.2.1 = v
      · by_cases e2 : W[k].2.1 = v
        · rw [if_pos e1, if_pos e2, if_pos e2.symm, if_pos e1.symm]; omega
        · have e3 : ¬ v = W[k].2.1 := fun e => e2 e.symm
          rw [if_pos e1, if_neg e2, if_neg e3, if_pos e1.symm]; omega
      · have e4 : ¬ v = W[k].2.2.1 := fun e => e1 e.symm
        by_cases e2 : W[k].2.1 = v
        · rw [if_neg e1, if_pos e2, if_pos e2.symm, if_neg e4]; omega
        · have e3 : ¬ v = W[k].2.1 := fun e => e2 e.symm
          rw [if_neg e1, if_neg e2, if_neg e3, if_neg e4]; omega
    · by_cases e : i = W[k].1
      · subst e; simp only [if_true]; omega
      · simp only [if_neg e]; exact h.up i hi
    · have hb2 := h.bk j hj (by omega)
      by_cases e : W[j].1 = W[k].1
      · have hl2 := later j hj hkj e
        rw [e] at hb2 ⊢
        simp only [if_true]
        refine ⟨fun e2 => ?_, fun e2 => absurd (e2.trans q0.symm) hl2⟩
        have := hb2.1 e2
        omega
      · simp only [if_neg e]
        exact hb2
/-- A way was taken. -/
theorem Net.take (h : Net E n wt x0 tot x f lf D tk) {f' : Nat → Int} {much : Int} {b : Nat} (hT : Took E n x f f' much a W W.length) (hb : nodeAt a W W.length = b) (ha : a < n) (hbn : b < n) (hm : 0 < much) (h1 : much ≤ lf a) (h2 : much ≤ - lf b) :
    Net E n wt x0 tot x f' (fun v => if v = b then lf b + much else if v = a then lf a - much else lf v) D (tk + 1) ∧
      sumK (fun v => max 0 (if v = b then lf b + much else if v = a then lf a - much else lf v)) n = sumK (fun v => max 0 (lf v)) n - much := by
  have hab : a ≠ b := fun e => by subst e; omega
  have hsum : sumK (fun v => max 0 (if v = b then lf b + much else if v = a then lf a - much else lf v)) n = sumK (fun v => max 0 (lf v)) n - much := by
    have e1 : sumK (fun v => max 0 (if v = b then lf b + much else if v = a then lf a - much else lf v)) n = sumK (fun v => if v = a then (lf a - much) else (fun v => max 0 (lf v)) v) n := by
      refine sumK_congr n fun v _ => ?_
      by_cases e : v = b
      · subst e; simp only [if_true, if_neg (Ne.symm hab)]; omega
      · by_cases e2 : v = a
        · subst e2; simp only [if_true, if_neg e]; omega
        · simp only [if_neg e, if_neg e2]
    rw [e1, sumK_upd, if_pos ha]
    (try simp only)
    omega
  refine ⟨⟨hT.fits, fun v hv => ?_, h.d0, h.d1, h.hi, h.lo, fun v hv hl => ?_, fun v hv hl => ?_, by have := h.tk0; omega, ?_, fun i hi => ?_⟩, hsum⟩
  · have hB := h.bal v hv
    have hn := hT.net v
    rw [hb] at hn
    (try simp only)
    by_cases e : v = b
    · subst e
      rw [if_neg (Ne.symm hab), if_pos rfl] at hn
      rw [if_pos rfl]; omega
    · by_cases e2 : v = a
      · subst e2
        rw [if_pos rfl, if_neg e] at hn
        rw [if_neg e, if_pos rfl]; omega
      · rw [if_neg e2, if_neg e] at hn
        rw [if_neg e, if_neg e2]; omega
  · (try simp only at hl)
    by_cases e : v = b
    · subst e; rw [if_pos rfl] at hl; omega
    · by_cases e2 : v = a
      · subst e2; exact h.src v hv (by omega)
      · rw [if_neg e, if_neg e2] at hl; exact h.src v hv hl
  · (try simp only at hl)
    by_cases e : v = b
    · subst e; exact h.dst v hv (by omega)
    · by_cases e2 : v = a
      · subst e2; rw [if_neg e, if_pos rfl] at hl; omega
      · rw [if_neg e, if_neg e2] at hl; exact h.dst v hv hl
  · rw [hsum]; have := h.tk1; omega
  · rw [hsum]; have := h.fb i hi; have := hT.up i hi; omega
theorem Net.lfb (h : Net E n wt x0 tot x f lf D tk) (g : Dag E n wt x0 tot) {v : Nat} (hv : v < n) : -100000000000000 ≤ lf v ∧ lf v ≤ 100000000000000 := by
  have e := bal_dot h.fits.ends h.bal (fun _ => 1)
  have z : sumK (fun i => (wt i - f i) * ((fun _ => (1 : Int)) (E.getD i (0, 0)).1 - (fun _ => (1 : Int)) (E.getD i (0, 0)).2)) E.length = 0 := by
    refine (sumK_congr _ (fun i _ => ?_)).trans (sumK_zero E.length)
    simp
  rw [z] at e
  have h2 : sumK (fun v => (fun _ => (1 : Int)) v * lf v) n = sumK lf n := sumK_congr n (fun v _ => by simp)
  rw [h2] at e
  have h1 := sumK_ge (g := fun v => max 0 (lf v) - lf v) n (fun v _ => by (try simp only); omega) v hv
  rw [sumK_sub (fun v => max 0 (lf v)) lf, e] at h1
  have h3 := sumK_ge (g := fun v => max 0 (lf v)) n (fun v _ => by (try simp only); omega) v hv
  have h4 := h.tk1
  have h5 := h.tk0
  have h6 := g.tot
  (try simp only at h1 h3)
  omega
theorem Net.tkb (h : Net E n wt x0 tot x f lf D tk) (g : Dag E n wt x0 tot) : 0 ≤ tk ∧ tk ≤ 100000000000000 := by
  have h1 := h.tk0
  have h2 := h.tk1
  have h3 := h.pos0
  have h4 := g.tot
  omega
end
end Go.Proofs.Ytkloaekmjnbacaa.DagM
