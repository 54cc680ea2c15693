/-
  Proofs that coordinates are best, in plain mathematics: what is told of any coordinates and any flow; what is told OK is best. Conditions: none.
-/
import Derived.Test.YtappfojjjegnpaaGreatDoorCrLa
namespace Go.Proofs.YtappfojjjegnpaaGreatDoor.DagM
variable {n m : Nat} {K L : List Arc} {x y f g : List Int} {u v : Int}

def flowNo (c : Int) : Bool := decide (c < 0) || decide (1099511627776 < c)
def flowB (L : List Arc) (f : List Int) : Bool := decide (f.length = L.length) && !f.any flowNo
def rightB (n : Nat) (L : List Arc) (f : List Int) : Bool := (List.range n).all fun (w : Nat) => decide (netF L f w = supF L w)
/-- What is told of coordinates and a flow. -/
def certErr (n : Nat) (L : List Arc) (x f : List Int) : Int :=
  if costErr n L x = 0 then (if flowB L f then (if rightB n L f then (if f.sum = costSum x L then 0 else 15) else 12) else 2) else costErr n L x
theorem flowB_iff (L : List Arc) (f : List Int) : flowB L f = true ↔ f.length = L.length ∧ ∀ c ∈ f, 0 ≤ c ∧ c ≤ 1099511627776 := by
  unfold flowB
  simp only [Bool.and_eq_true, decide_eq_true_eq, Bool.not_eq_true', List.any_eq_false]
  refine and_congr_right fun _ => forall_congr' fun c => imp_congr_right fun _ => ?_
  simp only [flowNo, Bool.or_eq_true, decide_eq_true_eq, not_or]
  omega
theorem rightB_iff (hl : f.length = L.length) (h0 : ∀ c ∈ f, 0 ≤ c) : rightB n L f = true ↔ RightF n L f := by
  unfold rightB
  simp only [List.all_eq_true, List.mem_range, decide_eq_true_eq]
  exact ⟨fun h => ⟨hl, h0, h⟩, fun h => h.net⟩
theorem costErr_ok (h : costErr n L x = 0) : ordErr n L = 0 ∧ coordB n x = true ∧ fitB x L = true := by
  unfold costErr at h
  by_cases h1 : ordErr n L = 0
  · rw [if_pos h1] at h
    by_cases h2 : coordB n x = true
    · rw [if_pos h2] at h
      by_cases h3 : fitB x L = true
      · exact ⟨h1, h2, h3⟩
      · rw [if_neg h3] at h; omega
    · rw [if_neg h2] at h; omega
  · rw [if_neg h1] at h; exact absurd h h1
theorem costErr_of (h1 : ordErr n L = 0) (h2 : coordB n x = true) (h3 : fitB x L = true) : costErr n L x = 0 := by
  unfold costErr
  rw [if_pos h1, if_pos h2, if_pos h3]
theorem cert_ok (h : certErr n L x f = 0) : May n L ∧ coordB n x = true ∧ fitB x L = true ∧ RightF n L f ∧ f.sum = costSum x L := by
  unfold certErr at h
  by_cases h1 : costErr n L x = 0
  · rw [if_pos h1] at h
    obtain ⟨e1, e2, e3⟩ := costErr_ok h1
    by_cases h2 : flowB L f = true
    · rw [if_pos h2] at h
      have hf := (flowB_iff L f).1 h2
      by_cases h3 : rightB n L f = true
      · rw [if_pos h3] at h
        by_cases h4 : f.sum = costSum x L
        · exact ⟨ordErr_may e1, e2, e3, (rightB_iff hf.1 (fun c hc => (hf.2 c hc).1)).1 h3, h4⟩
        · rw [if_neg h4] at h; omega
      · rw [if_neg h3] at h; omega
    · rw [if_neg h2] at h; omega
  · rw [if_neg h1] at h; exact absurd h h1
/-- Wherever a proof is OK, no coordinates that fit cost less. -/
theorem cert_best (h : certErr n L x f = 0) (hy : fitB y L = true) : costSum x L ≤ costSum y L := by
  obtain ⟨hM, _, _, hR, hs⟩ := cert_ok h
  rw [← hs]
  exact weak (may_ends hM) hR hy
theorem cert_of (h1 : ordErr n L = 0) (h2 : coordB n x = true) (h3 : fitB x L = true) (h4 : RightF n L f) (h5 : ∀ c ∈ f, c ≤ 1099511627776) (h6 : f.sum = costSum x L) : certErr n L x f = 0 := by
  have hB : flowB L f = true := (flowB_iff L f).2 ⟨h4.len, fun c hc => ⟨h4.nn c hc, h5 c hc⟩⟩
  unfold certErr
  rw [if_pos (costErr_of h1 h2 h3), if_pos hB, if_pos ((rightB_iff h4.len h4.nn).2 h4), if_pos h6]
theorem le_sum : ∀ l : List Int, (∀ c ∈ l, 0 ≤ c) → ∀ c ∈ l, c ≤ l.sum := by
  intro l
  induction l with
  | nil => intro _ c hc; simp at hc
  | cons a l ih =>
    intro h0 c hc
    have ha := h0 a (by simp)
    have hs : 0 ≤ l.sum := by
      have := sum_take_le l (fun d hd => h0 d (by simp [hd])) l.length
      rw [List.take_length] at this
      omega
    rw [List.sum_cons]
    rcases List.mem_cons.1 hc with e | e
    · subst e; omega
    · have := ih (fun d hd => h0 d (by simp [hd])) c e; omega

/-- All coordinates moved. -/
theorem moved_val (d : Int) {i : Int} (hi : i.toNat < x.length) : val (x.map fun c => c + d) i = val x i + d := by
  simp [val, List.getD_eq_getElem?_getD, hi]
theorem moved_cost (d : Int) (hx : ∀ a ∈ L, a.1.toNat < x.length ∧ a.2.1.toNat < x.length) : costSum (x.map fun c => c + d) L = costSum x L ∧ fitB (x.map fun c => c + d) L = fitB x L := by
  constructor
  · unfold costSum
    congr 1
    refine List.map_congr_left fun a ha => ?_
    have := hx a ha
    simp only [costA]
    rw [moved_val d this.1, moved_val d this.2]
    congr 1
    omega
  · unfold fitB
    rw [Bool.eq_iff_iff, List.all_eq_true, List.all_eq_true]
    refine forall_congr' fun a => imp_congr_right fun ha => ?_
    have := hx a ha
    simp only [fitA, decide_eq_true_eq]
    rw [moved_val d this.1, moved_val d this.2]
    omega
theorem coord_of (hl : x.length = n) (hx : ∀ c ∈ x, -1000000 ≤ c ∧ c ≤ 1000000) : coordB n x = true := by
  unfold coordB
  simp only [Bool.and_eq_true, decide_eq_true_eq, Bool.not_eq_true', List.any_eq_false]
  refine ⟨by rw [hl], fun y hy => ?_⟩
  have := hx y hy
  simp [far]
  omega

/-- A unit less along an arc is no proof. -/
theorem less_cert (h1 : ordErr n L = 0) (hc : coordB n y = true) (hf : fitB y L = true) (h : RightF n L f) {i : Nat} (hi : i < f.length) (hne : ∀ a ∈ L, a.1 ≠ a.2.1) : certErr n L y (f.set i (f[i] - 1)) = 12 ∨ certErr n L y (f.set i (f[i] - 1)) = 2 := by
  have hM := ordErr_may h1
  have hiL : i < L.length := by rw [← h.len]; exact hi
  have e0 := netF_set L[i].1 (-1) L f i hi hiL
  have hnp : netP L[i].1 (L[i], -1) = -1 := by
    unfold netP
    have := hne L[i] (List.getElem_mem hiL)
    simp only [if_true]
    rw [if_neg (fun e => this e.symm)]
    omega
  have ok := hM.ok L[i] (List.getElem_mem hiL)
  unfold certErr
  rw [if_pos (costErr_of h1 hc hf)]
  by_cases hB : flowB L (f.set i (f[i] - 1)) = true
  · rw [if_pos hB]
    refine Or.inl ?_
    have hB2 := (flowB_iff _ _).1 hB
    rw [if_neg]
    intro hr
    have hR := (rightB_iff hB2.1 (fun c hc => (hB2.2 c hc).1)).1 hr
    have h2 := hR.net L[i].1.toNat (by omega)
    have h3 := h.net L[i].1.toNat (by omega)
    have e1 : ((L[i].1.toNat : Nat) : Int) = L[i].1 := by omega
    rw [e1] at h2 h3
    have e2 : f[i] - 1 = f[i] + -1 := by omega
    rw [e2] at h2
    rw [e0, hnp] at h2
    omega
  · rw [if_neg hB]
    exact Or.inr rfl
/-! All arcs turned; two proofs side by side. -/
theorem netF_turn (v : Int) : ∀ (L : List Arc) (f : List Int), netF (turnA L) f v = - netF L f v := by
  intro L
  induction L with
  | nil => intro f; simp [netF, turnA]
  | cons a L ih =>
    intro f
    cases f with
    | nil => simp [netF]
    | cons c f =>
      have h : turnA (a :: L) = (a.2.1, a.1, a.2.2) :: turnA L := rfl
      rw [h, netF_cons, netF_cons, ih f]
      unfold netP
      simp only
      omega
theorem wts_turn (L : List Arc) : wts (turnA L) = wts L := by
  unfold wts turnA
  rw [List.map_map]
  rfl
theorem right_turn (h : RightF n L f) : RightF n (turnA L) f :=
  ⟨by rw [h.len]; simp [turnA], h.nn, fun w hw => by unfold supF; rw [wts_turn, netF_turn, netF_turn, h.net w hw]; rfl⟩

theorem netF_app (v : Int) (hl : f.length = K.length) : netF (K ++ L) (f ++ g) v = netF K f v + netF L g v := by
  unfold netF
  rw [List.zip_append hl.symm, List.map_append, List.sum_append]
theorem netF_move (n : Nat) (v : Int) : ∀ (M : List Arc) (g : List Int), netF (moveA n M) g v = netF M g (v - n) := by
  intro M
  induction M with
  | nil => intro g; simp [netF, moveA]
  | cons a M ih =>
    intro g
    cases g with
    | nil => simp [netF]
    | cons c g =>
      have h : moveA n (a :: M) = ((n : Int) + a.1, (n : Int) + a.2.1, a.2.2) :: moveA n M := rfl
      rw [h, netF_cons, netF_cons, ih g]
      unfold netP
      simp only
      have e1 : ((n : Int) + a.1 = v) ↔ a.1 = v - n := by omega
      have e2 : ((n : Int) + a.2.1 = v) ↔ a.2.1 = v - n := by omega
      simp only [e1, e2]
theorem netF_off (v : Int) : ∀ (K : List Arc) (f : List Int), (∀ a ∈ K, a.1 ≠ v ∧ a.2.1 ≠ v) → netF K f v = 0 := by
  intro K
  induction K with
  | nil => intro f _; simp [netF]
  | cons a K ih =>
    intro f h
    cases f with
    | nil => simp [netF]
    | cons c f =>
      have ha := h a (by simp)
      rw [netF_cons, ih f (fun b hb => h b (by simp [hb]))]
      unfold netP
      simp only
      rw [if_neg ha.1, if_neg ha.2]
      omega
theorem right_beside {M : List Arc} (hK : ∀ a ∈ K, 0 ≤ a.1 ∧ a.1 < n ∧ 0 ≤ a.2.1 ∧ a.2.1 < n) (hM : ∀ a ∈ M, 0 ≤ a.1 ∧ a.1 < m ∧ 0 ≤ a.2.1 ∧ a.2.1 < m) (h : RightF n K f) (h' : RightF m M g) : RightF (n + m) (K ++ moveA n M) (f ++ g) := by
  have hw : wts (K ++ moveA n M) = wts K ++ wts M := by
    unfold wts moveA
    rw [List.map_append, List.map_map]
    rfl
  refine ⟨by simp [h.len, h'.len, moveA], fun c hc => ?_, fun w hw2 => ?_⟩
  · rcases List.mem_append.1 hc with hc | hc
    · exact h.nn c hc
    · exact h'.nn c hc
  · unfold supF
    rw [hw, netF_app _ h.len, netF_app _ (by simp [wts]), netF_move, netF_move]
    by_cases e : w < n
    · have z : ∀ g : List Int, netF M g ((w : Int) - n) = 0 := fun g => netF_off _ M g (fun a ha => by have := hM a ha; omega)
      rw [z, z, h.net w e]
      rfl
    · have z : ∀ f : List Int, netF K f (w : Int) = 0 := fun f => netF_off _ K f (fun a ha => by have := hK a ha; omega)
      have h2 := h'.net (w - n) (by omega)
      have e2 : ((w - n : Nat) : Int) = (w : Int) - n := by omega
      rw [e2] at h2
      rw [z, z, h2]
      rfl

end Go.Proofs.YtappfojjjegnpaaGreatDoor.DagM
