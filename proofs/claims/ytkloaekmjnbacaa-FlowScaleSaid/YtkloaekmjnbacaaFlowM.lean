/-
  Flows in plain mathematics: what flows from a node, right flows, that no right flow is more than what coordinates that fit cost. Conditions: none.
-/
import Derived.Test.YtkloaekmjnbacaaDagR
namespace Go.Proofs.Ytkloaekmjnbacaa.DagM

/-- What flows from node v, less what flows to it. -/
def netP (v : Int) (p : Arc × Int) : Int := (if p.1.1 = v then p.2 else 0) - (if p.1.2.1 = v then p.2 else 0)
def netF (L : List Arc) (f : List Int) (v : Int) : Int := ((L.zip f).map (netP v)).sum
def wts (L : List Arc) : List Int := L.map fun a => a.2.2
def supF (L : List Arc) (v : Int) : Int := netF L (wts L) v
def dotF (L : List Arc) (f y : List Int) : Int := ((L.zip f).map fun p => p.2 * (val y p.1.2.1 - val y p.1.1)).sum
def totF (n : Nat) (L : List Arc) : Int := ((List.range n).map fun (v : Nat) => max 0 (supF L v)).sum
/-- A right flow. -/
structure RightF (n : Nat) (L : List Arc) (f : List Int) : Prop where
  len : f.length = L.length
  nn : ∀ y ∈ f, 0 ≤ y
  net : ∀ v : Nat, v < n → netF L f v = supF L v
/-- It flows along tight arcs alone. -/
def TightF (L : List Arc) (f x : List Int) : Prop := ∀ p ∈ L.zip f, 0 < p.2 → val x p.1.2.1 - val x p.1.1 = 1
/-- What solves a dag: coordinates that fit, without gaps; a right flow along tight arcs alone. -/
structure SolvedF (n : Nat) (L : List Arc) (x f : List Int) (ways : Int) : Prop where
  len : x.length = n
  fit : fitB x L = true
  rank : castI (rkL x) = x
  right : RightF n L f
  tight : TightF L f x
  ways0 : 0 ≤ ways
  ways1 : ways ≤ totF n L

variable {n : Nat} {L : List Arc} {f g x y : List Int}
theorem netF_cons (a : Arc) (c v : Int) (L : List Arc) (f : List Int) : netF (a :: L) (c :: f) v = netP v (a, c) + netF L f v := by simp [netF]
theorem sum_ind (y : List Int) (c : Int) : ∀ (n : Nat) (i : Int), 0 ≤ i → i < n → ((List.range n).map fun (v : Nat) => val y v * (if i = (v : Int) then c else 0)).sum = val y i * c := by
  intro n
  induction n with
  | zero => intro i h0 h1; omega
  | succ n ih =>
    intro i h0 h1
    rw [List.range_succ, List.map_append, List.sum_append]
    by_cases e : i = (n : Int)
    · subst e
      have z : ((List.range n).map fun (v : Nat) => val y v * (if (n : Int) = (v : Int) then c else 0)).sum = 0 := by
        have : ∀ l : List Nat, (∀ v ∈ l, v < n) → (l.map fun (v : Nat) => val y v * (if (n : Int) = (v : Int) then c else 0)).sum = 0 := by
          intro l
          induction l with
          | nil => intro _; rfl
          | cons a l ih =>
            intro h
            have ha := h a (by simp)
            rw [List.map_cons, List.sum_cons, ih (fun v hv => h v (by simp [hv])), if_neg (by omega)]
            simp
        exact this _ (fun v hv => by simpa using hv)
      rw [z]
      simp
    · rw [ih i h0 (by omega)]
      simp [e]
theorem sum_split (A B : Nat → Int) (l : List Nat) : (l.map fun v => A v + B v).sum = (l.map A).sum + (l.map B).sum := by
  induction l with
  | nil => rfl
  | cons a l ih => simp only [List.map_cons, List.sum_cons, ih]; omega
theorem sum_neg (A : Nat → Int) (l : List Nat) : (l.map fun v => - A v).sum = - (l.map A).sum := by
  induction l with
  | nil => rfl
  | cons a l ih => simp only [List.map_cons, List.sum_cons, ih]; omega
theorem sum_zero (l : List Nat) : (l.map fun _ => (0 : Int)).sum = 0 := by
  induction l with
  | nil => rfl
  | cons a l ih => simp [ih]
/-- What flows, times the lengths, is what the nodes give, times their numbers. -/
theorem dot_net (hE : ∀ a ∈ L, 0 ≤ a.1 ∧ a.1 < n ∧ 0 ≤ a.2.1 ∧ a.2.1 < n) : ∀ f : List Int, dotF L f y = - ((List.range n).map fun (v : Nat) => val y v * netF L f v).sum := by
  induction L with
  | nil =>
    intro f
    have : ((List.range n).map fun (v : Nat) => val y v * netF [] f v) = (List.range n).map fun _ => (0 : Int) := List.map_congr_left (fun v _ => by simp [netF])
    rw [this, sum_zero]
    rfl
  | cons a L ih =>
    intro f
    cases f with
    | nil =>
      have : ((List.range n).map fun (v : Nat) => val y v * netF (a :: L) [] v) = (List.range n).map fun _ => (0 : Int) := List.map_congr_left (fun v _ => by simp [netF])
      rw [this, sum_zero]
      rfl
    | cons c f =>
      have ha := hE a (by simp)
      have h1 := ih (fun b hb => hE b (by simp [hb])) f
      have e : ((List.range n).map fun (v : Nat) => val y v * netF (a :: L) (c :: f) v) = (List.range n).map fun (v : Nat) => (val y v * (if a.1 = (v : Int) then c else 0) + - (val y v * (if a.2.1 = (v : Int) then c else 0))) + val y v * netF L f v := by
        refine List.map_congr_left fun v _ => ?_
        rw [netF_cons]
        unfold netP
        simp only
        rw [Int.mul_add, Int.mul_sub]
        omega
      rw [e, sum_split, sum_split, sum_neg, sum_ind y c n a.1 ha.1 ha.2.1, sum_ind y c n a.2.1 ha.2.2.1 ha.2.2.2]
      unfold dotF at h1 ⊢
      rw [List.zip_cons_cons, List.map_cons, List.sum_cons, h1]
      simp only
      rw [Int.mul_sub, Int.mul_comm c, Int.mul_comm c]
      omega
theorem dot_wts (y : List Int) (L : List Arc) : dotF L (wts L) y = costSum y L := by
  unfold dotF wts costSum
  induction L with
  | nil => rfl
  | cons a L ih =>
    rw [List.map_cons, List.zip_cons_cons, List.map_cons, List.sum_cons, ih, List.map_cons, List.sum_cons]
    rfl
theorem sum_le_dot (hf : fitB y L = true) : ∀ f : List Int, (∀ c ∈ f, 0 ≤ c) → f.length = L.length → f.sum ≤ dotF L f y := by
  unfold dotF
  induction L with
  | nil => intro f _ hl; obtain rfl : f = [] := List.eq_nil_of_length_eq_zero (by simpa using hl); simp
  | cons a L ih =>
    intro f h0 hl
    cases f with
    | nil => simp at hl
    | cons c f =>
      simp only [fitB, List.all_cons, Bool.and_eq_true] at hf
      have h1 := ih (by unfold fitB; exact hf.2) f (fun d hd => h0 d (by simp [hd])) (by simpa using hl)
      have hc := h0 c (by simp)
      have hlt : val y a.1 < val y a.2.1 := by simpa [fitA] using hf.1
      rw [List.sum_cons, List.zip_cons_cons, List.map_cons, List.sum_cons]
      simp only
      have h2 : c * 1 ≤ c * (val y a.2.1 - val y a.1) := Int.mul_le_mul_of_nonneg_left (by omega) hc
      omega
theorem dot_tight : ∀ f : List Int, (∀ c ∈ f, 0 ≤ c) → f.length = L.length → TightF L f y → dotF L f y = f.sum := by
  unfold dotF TightF
  induction L with
  | nil => intro f _ hl _; obtain rfl : f = [] := List.eq_nil_of_length_eq_zero (by simpa using hl); simp
  | cons a L ih =>
    intro f h0 hl ht
    cases f with
    | nil => simp at hl
    | cons c f =>
      rw [List.zip_cons_cons] at ht ⊢
      have h1 := ih f (fun d hd => h0 d (by simp [hd])) (by simpa using hl) (fun p hp => ht p (by simp [hp]))
      have hc := h0 c (by simp)
      rw [List.sum_cons, List.map_cons, List.sum_cons, h1]
      simp only
      by_cases e : c = 0
      · subst e; simp
      · have := ht (a, c) (by simp) (by simp only; omega)
        simp only at this
        rw [this]; omega
theorem net_same (hE : ∀ a ∈ L, 0 ≤ a.1 ∧ a.1 < n ∧ 0 ≤ a.2.1 ∧ a.2.1 < n) (h : RightF n L f) : dotF L f y = costSum y L := by
  rw [← dot_wts, dot_net hE f, dot_net hE (wts L)]
  congr 2
  refine List.map_congr_left fun v hv => ?_
  rw [h.net v (by simpa using hv)]
  rfl
/-- No right flow is more than what coordinates that fit cost. -/
theorem weak (hE : ∀ a ∈ L, 0 ≤ a.1 ∧ a.1 < n ∧ 0 ≤ a.2.1 ∧ a.2.1 < n) (h : RightF n L f) (hf : fitB y L = true) : f.sum ≤ costSum y L := by
  rw [← net_same hE h]
  exact sum_le_dot hf f h.nn h.len
theorem SolvedF.cost {w : Int} (hE : ∀ a ∈ L, 0 ≤ a.1 ∧ a.1 < n ∧ 0 ≤ a.2.1 ∧ a.2.1 < n) (h : SolvedF n L x f w) : f.sum = costSum x L := by
  rw [← net_same hE h.right]
  exact (dot_tight f h.right.nn h.right.len h.tight).symm
theorem SolvedF.best {w : Int} (hE : ∀ a ∈ L, 0 ≤ a.1 ∧ a.1 < n ∧ 0 ≤ a.2.1 ∧ a.2.1 < n) (h : SolvedF n L x f w) (hf : fitB y L = true) : costSum x L ≤ costSum y L := by
  rw [← h.cost hE]
  exact weak hE h.right hf
theorem SolvedF.most {w : Int} (hE : ∀ a ∈ L, 0 ≤ a.1 ∧ a.1 < n ∧ 0 ≤ a.2.1 ∧ a.2.1 < n) (h : SolvedF n L x f w) (hg : RightF n L g) : g.sum ≤ f.sum := by
  rw [h.cost hE]
  exact weak hE hg h.fit
theorem SolvedF.same {w w' : Int} {x' f' : List Int} (hE : ∀ a ∈ L, 0 ≤ a.1 ∧ a.1 < n ∧ 0 ≤ a.2.1 ∧ a.2.1 < n) (h : SolvedF n L x f w) (h' : SolvedF n L x' f' w') : costSum x L = costSum x' L :=
  Int.le_antisymm (h.best hE h'.fit) (h'.best hE h.fit)

theorem netF_take (L : List Arc) (f : List Int) (k : Nat) (h : k < L.length) (h2 : k < f.length) (v : Int) : netF (L.take (k + 1)) (f.take (k + 1)) v = netF (L.take k) (f.take k) v + netP v (L[k], f[k]) := by
  have e : (L.take (k + 1)).zip (f.take (k + 1)) = (L.take k).zip (f.take k) ++ [(L[k], f[k])] := by
    rw [List.take_succ_eq_append_getElem h, List.take_succ_eq_append_getElem h2, List.zip_append (by simp; omega)]
    simp
  unfold netF
  rw [e, List.map_append, List.sum_append]
  simp
theorem supF_take (L : List Arc) (k : Nat) (h : k < L.length) (v : Int) : supF (L.take (k + 1)) v = supF (L.take k) v + netP v (L[k], L[k].2.2) := by
  have e : ∀ m, wts (L.take m) = (wts L).take m := fun m => by unfold wts; rw [List.map_take]
  unfold supF
  rw [e, e, netF_take L (wts L) k h (by simpa [wts] using h)]
  simp [wts]
/-- How great what flows from a node can be. -/
theorem netF_near (v : Int) : ∀ (L : List Arc) (f : List Int), (∀ c ∈ f, 0 ≤ c) → - f.sum ≤ netF L f v ∧ netF L f v ≤ f.sum := by
  intro L
  induction L with
  | nil => intro f h0; have : 0 ≤ f.sum := by
             induction f with
             | nil => simp
             | cons c f ih => have := h0 c (by simp); have := ih (fun d hd => h0 d (by simp [hd])); rw [List.sum_cons]; omega
           simp [netF]; omega
  | cons a L ih =>
    intro f h0
    cases f with
    | nil => simp [netF]
    | cons c f =>
      have hc := h0 c (by simp)
      have h1 := ih f (fun d hd => h0 d (by simp [hd]))
      rw [netF_cons, List.sum_cons]
      unfold netP
      simp only
      split <;> split <;> omega
theorem sum_take_le (f : List Int) (h0 : ∀ c ∈ f, 0 ≤ c) (k : Nat) : 0 ≤ (f.take k).sum ∧ (f.take k).sum ≤ f.sum := by
  have nn : ∀ l : List Int, (∀ c ∈ l, 0 ≤ c) → 0 ≤ l.sum := by
    intro l
    induction l with
    | nil => intro _; simp
    | cons c l ih => intro h; have := h c (by simp); have := ih (fun d hd => h d (by simp [hd])); rw [List.sum_cons]; omega
  have e : f.sum = (f.take k).sum + (f.drop k).sum := by rw [← List.sum_append, List.take_append_drop]
  have h1 := nn (f.take k) (fun c hc => h0 c (List.mem_of_mem_take hc))
  have h2 := nn (f.drop k) (fun c hc => h0 c (List.mem_of_mem_drop hc))
  omega
theorem wts_near {n : Int} (h : May n L) : (∀ c ∈ wts L, 0 ≤ c) ∧ (wts L).sum ≤ 1000000 * (L.length : Int) := by
  refine ⟨fun c hc => by obtain ⟨a, ha, rfl⟩ := List.mem_map.1 hc; have := h.ok a ha; omega, ?_⟩
  have : ∀ K : List Arc, (∀ a ∈ K, a.2.2 ≤ 1000000) → (wts K).sum ≤ 1000000 * (K.length : Int) := by
    intro K
    induction K with
    | nil => intro _; simp [wts]
    | cons a K ih =>
      intro hk
      have := hk a (by simp)
      have := ih (fun b hb => hk b (by simp [hb]))
      simp only [wts, List.map_cons, List.sum_cons, List.length_cons] at this ⊢
      push_cast
      omega
  exact this L (fun a ha => by have := h.ok a ha; omega)
theorem sup_near {n : Int} (h : May n L) (k : Nat) (v : Int) : -16384000000 ≤ supF (L.take k) v ∧ supF (L.take k) v ≤ 16384000000 := by
  have hw := wts_near h
  have e : wts (L.take k) = (wts L).take k := by unfold wts; rw [List.map_take]
  have h1 := sum_take_le (wts L) hw.1 k
  have h2 := netF_near v (L.take k) (wts (L.take k)) (fun c hc => by rw [e] at hc; exact hw.1 c (List.mem_of_mem_take hc))
  have := h.len
  rw [e] at h2
  unfold supF
  rw [e]
  omega
section
variable {ways : Int}
theorem may_ends (h : May n L) : ∀ a ∈ L, 0 ≤ a.1 ∧ a.1 < n ∧ 0 ≤ a.2.1 ∧ a.2.1 < n := fun a ha => by have := h.ok a ha; omega
theorem SolvedF.near (h : SolvedF n L x f ways) : ∀ y ∈ x, 0 ≤ y ∧ y ≤ n := by
  intro y hy
  rw [← h.rank] at hy
  obtain ⟨k, hk, rfl⟩ := List.mem_map.1 hy
  obtain ⟨u, _, rfl⟩ := List.mem_map.1 hk
  have := rk_le x u
  have := h.len
  omega
theorem SolvedF.val_near (h : SolvedF n L x f ways) (i : Int) (h0 : 0 ≤ i) (h1 : i < n) : 0 ≤ val x i ∧ val x i ≤ n := by
  have hi : i.toNat < x.length := by have := h.len; omega
  have e : val x i = x[i.toNat] := by simp [val, List.getD_eq_getElem?_getD, hi]
  rw [e]
  exact h.near _ (List.getElem_mem hi)
theorem cost_near (hM : May n L) (hx : ∀ i : Int, 0 ≤ i → i < n → 0 ≤ val x i ∧ val x i ≤ n) : -4096000000 * (L.length : Int) ≤ costSum x L ∧ costSum x L ≤ 4096000000 * (L.length : Int) := by
  have hn := hM.n1
  have hok := hM.ok
  clear hM
  induction L with
  | nil => simp [costSum]
  | cons a L ih =>
    have h1 := ih (fun b hb => hok b (by simp [hb]))
    have ha := hok a (by simp)
    have v1 := hx a.1 (by omega) (by omega)
    have v2 := hx a.2.1 (by omega) (by omega)
    have c1 : costA x a ≤ 1000000 * 4096 := by
      unfold costA
      by_cases hd : 0 ≤ val x a.2.1 - val x a.1
      · exact Int.mul_le_mul (by omega) (by omega) hd (by omega)
      · have : a.2.2 * (val x a.2.1 - val x a.1) ≤ 0 := Int.mul_nonpos_of_nonneg_of_nonpos (by omega) (by omega)
        omega
    have c2 : -(1000000 * 4096) ≤ costA x a := by
      unfold costA
      have h2 : a.2.2 * (-(val x a.2.1 - val x a.1)) ≤ 1000000 * 4096 := by
        by_cases hd : 0 ≤ -(val x a.2.1 - val x a.1)
        · exact Int.mul_le_mul (by omega) (by omega) hd (by omega)
        · have : a.2.2 * (-(val x a.2.1 - val x a.1)) ≤ 0 := Int.mul_nonpos_of_nonneg_of_nonpos (by omega) (by omega)
          omega
      rw [Int.mul_neg] at h2
      omega
    simp only [costSum, List.map_cons, List.sum_cons, List.length_cons] at h1 ⊢
    push_cast
    omega
theorem SolvedF.sum_near (h : SolvedF n L x f ways) (hM : May n L) : f.sum ≤ 1000000000000000 := by
  rw [h.cost (may_ends hM)]
  have := cost_near hM h.val_near
  have := hM.len
  omega
theorem SolvedF.coord (h : SolvedF n L x f ways) (hM : May n L) : coordB n x = true := by
  unfold coordB
  have hn := hM.n1
  simp only [Bool.and_eq_true, decide_eq_true_eq, Bool.not_eq_true', List.any_eq_false]
  refine ⟨by rw [h.len], fun y hy => ?_⟩
  have := h.near y hy
  simp [far]
  omega
theorem SolvedF.flen (h : SolvedF n L x f ways) : f.length = L.length := h.right.len
end
end Go.Proofs.Ytkloaekmjnbacaa.DagM
