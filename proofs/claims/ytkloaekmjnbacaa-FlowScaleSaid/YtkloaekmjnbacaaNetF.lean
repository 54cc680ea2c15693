/-
  What letFlow leaves, by ranks, solves the dag. Conditions: the graph may be.
-/
import Derived.Test.YtkloaekmjnbacaaFlowM
import Derived.Test.YtkloaekmjnbacaaNetW
namespace Go.Proofs.Ytkloaekmjnbacaa.DagM

def wtL (L : List Arc) (i : Nat) : Int := (L.getD i (0, 0, 0)).2.2
def listI (n : Nat) (x : Nat → Int) : List Int := (List.range n).map x
section
variable {n : Nat} {L : List Arc} {f x : Nat → Int}
theorem ends_at {i : Nat} (h : i < L.length) : (ends L).getD i (0, 0) = (L[i].1.toNat, L[i].2.1.toNat) := by
  unfold ends
  rw [List.getD_eq_getElem?_getD, List.getElem?_map, List.getElem?_eq_getElem h]
  rfl
theorem netK_list (hM : May n L) (fl : List Int) (hl : fl.length = L.length) (hf : ∀ i (h : i < fl.length), fl[i] = f i) (v : Nat) : ∀ k, k ≤ L.length → netF (L.take k) (fl.take k) v = netK (ends L) f k v
  | 0, _ => by simp [netF, netK]
  | k + 1, h => by
    have hk : k < L.length := by omega
    rw [netF_take L fl k hk (by omega), netK_list hM fl hl hf v k (by omega)]
    rw [show netK (ends L) f (k + 1) v = netK (ends L) f k v + ((if ((ends L).getD k (0, 0)).1 = v then f k else 0) - (if ((ends L).getD k (0, 0)).2 = v then f k else 0)) from rfl, ends_at hk, hf k (by omega)]
    have ok := hM.ok L[k] (List.getElem_mem hk)
    have e1 : (L[k].1 = (v : Int)) ↔ L[k].1.toNat = v := by omega
    have e2 : (L[k].2.1 = (v : Int)) ↔ L[k].2.1.toNat = v := by omega
    unfold netP
    simp only [e1, e2]
theorem net_list (hM : May n L) (v : Nat) : netF L (listI L.length f) v = netE (ends L) f v := by
  have h := netK_list (f := f) hM (listI L.length f) (by simp [listI]) (fun i h => by simp [listI]) v L.length (Nat.le_refl _)
  rw [List.take_length, List.take_of_length_le (by simp [listI])] at h
  rw [h]
  unfold netE ends
  rw [List.length_map]
theorem sup_list (hM : May n L) (v : Nat) : supF L v = netE (ends L) (wtL L) v := by
  have h := netK_list (f := wtL L) hM (wts L) (by simp [wts]) (fun i h => by
    have : i < L.length := by simpa [wts] using h
    simp [wts, wtL, List.getD_eq_getElem?_getD, this]) v L.length (Nat.le_refl _)
  rw [List.take_length, List.take_of_length_le (by simp [wts])] at h
  unfold supF
  rw [h]
  unfold netE ends
  rw [List.length_map]
theorem sumK_list (g : Nat → Int) : ∀ n, ((List.range n).map g).sum = sumK g n
  | 0 => rfl
  | n + 1 => by rw [List.range_succ, List.map_append, List.sum_append, sumK_list g n]; simp [sumK]
theorem tot_list : totF n L = sumK (fun v => max 0 (supF L v)) n := sumK_list _ _
theorem val_list {i : Int} (h0 : 0 ≤ i) (h : i < n) : val (listI n x) i = x i.toNat := by
  have : i.toNat < n := by omega
  simp [val, listI, List.getD_eq_getElem?_getD, this]

/-! Ranks are their own ranks. -/
theorem rk_at (x : List Int) (j : Nat) (h : j < (unlike x).length) : rk x (unlike x)[j] = j := by
  have hp := unlike_lt x
  unfold rk
  generalize unlike x = u at *
  rw [List.pairwise_iff_getElem] at hp
  have h1 : (u.take j).countP (· < u[j]) = j := by
    rw [List.countP_eq_length.2 (fun a ha => by
      obtain ⟨i, hi, rfl⟩ := List.mem_iff_getElem.1 ha
      simp only [List.length_take] at hi
      rw [List.getElem_take]
      simpa using hp i j (by omega) h (by omega))]
    simp; omega
  have h2 : (u.drop j).countP (· < u[j]) = 0 := by
    rw [List.countP_eq_zero]
    intro a ha
    obtain ⟨i, hi, rfl⟩ := List.mem_iff_getElem.1 ha
    rw [List.getElem_drop]
    simp only [List.length_drop] at hi
    by_cases q : i = 0
    · subst q; simp
    · have := hp j (j + i) h (by omega) (by omega)
      simp; omega
  have e := congrArg (List.countP (· < u[j])) (List.take_append_drop j u)
  rw [List.countP_append] at e
  omega
theorem rk_lt_len {x : List Int} {a : Int} (ha : a ∈ x) : rk x a < (unlike x).length := by
  unfold rk
  rcases Nat.lt_or_ge ((unlike x).countP (· < a)) (unlike x).length with h | h
  · exact h
  · have := List.countP_eq_length.1 (Nat.le_antisymm List.countP_le_length h) a (mem_unlike.2 ha)
    simp at this
theorem rk_idem (x : List Int) : castI (rkL (castI (rkL x))) = castI (rkL x) := by
  have key : ∀ a ∈ x, rk (castI (rkL x)) (rk x a : Int) = rk x a := by
    intro a ha
    have h := rk_of (x := castI (rkL x)) (l := castI (List.range (rk x a))) (v := (rk x a : Int)) (by
      unfold castI
      have h1 : (List.range (rk x a)).Nodup := List.nodup_range
      unfold List.Nodup at h1 ⊢
      rw [List.pairwise_map]
      exact h1.imp fun {a b} hab e => hab (by omega)) (fun y => by
      constructor
      · intro hy
        obtain ⟨j, hj, rfl⟩ := List.mem_map.1 hy
        have hj' : j < rk x a := by simpa using hj
        have hj2 : j < (unlike x).length := Nat.lt_trans hj' (rk_lt_len ha)
        refine ⟨List.mem_map.2 ⟨j, List.mem_map.2 ⟨(unlike x)[j], mem_unlike.1 (List.getElem_mem hj2), rk_at x j hj2⟩, rfl⟩, by omega⟩
      · intro ⟨hy, hlt⟩
        obtain ⟨j, hj, rfl⟩ := List.mem_map.1 hy
        exact List.mem_map.2 ⟨j, by simp; omega, rfl⟩)
    rw [← h]
    simp [castI]
  have e : ∀ y ∈ castI (rkL x), ((rk (castI (rkL x)) y : Nat) : Int) = y := by
    intro y hy
    obtain ⟨j, hj, rfl⟩ := List.mem_map.1 hy
    obtain ⟨a, ha, rfl⟩ := List.mem_map.1 hj
    exact congrArg _ (key a ha)
  generalize castI (rkL x) = r at e ⊢
  unfold castI rkL
  rw [List.map_map]
  conv => rhs; rw [← List.map_id r]
  exact List.map_congr_left e
theorem rk_step {x : List Int} {a b : Int} (ha : a ∈ x) (h : b = a + 1) : (rk x b : Int) = rk x a + 1 := by
  have h1 := rk_lt ha (show a < b by omega)
  have h2 := rk_near (x := x) (show a ≤ b by omega)
  omega
/-- What is left of the code's own state solves the dag. -/
theorem Net.solved {x0 lf : Nat → Int} {D tk : Int} (hM : May n L) (h : Net (ends L) n (wtL L) x0 (totF n L) x f lf D tk) (h0 : ∀ v, v < n → ¬ 0 < lf v) : SolvedF n L (castI (rkL (listI n x))) (listI L.length f) tk := by
  have hz := bal_done h.fits.ends h.bal h0
  have hE := h.fits
  have hel : (ends L).length = L.length := by simp [ends]
  have hxl : (listI n x).length = n := by simp [listI]
  have hfit : fitB (listI n x) L = true := by
    unfold fitB
    rw [List.all_eq_true]
    intro a ha
    obtain ⟨i, hi, rfl⟩ := List.mem_iff_getElem.1 ha
    have ok := hM.ok L[i] ha
    have hf := hE.fit i (by rw [hel]; exact hi)
    rw [ends_at hi] at hf
    simp only at hf
    unfold fitA
    rw [val_list ok.1 ok.2.1, val_list ok.2.2.1 ok.2.2.2.1]
    simp; omega
  have hr := ranks_fit hM (show ((listI n x).length : Int) = n by rw [hxl]) hfit
  refine ⟨by simp [castI, rkL, hxl], hr.1, rk_idem _, ⟨by simp [listI], fun y hy => ?_, fun v hv => ?_⟩, fun p hp hpos => ?_, h.tk0, ?_⟩
  · obtain ⟨i, hi, rfl⟩ := List.mem_map.1 hy
    exact hE.nn i (by rw [hel]; simpa using hi)
  · rw [net_list hM, sup_list hM]
    have h1 := h.bal v hv
    have h2 := hz v hv
    omega
  · obtain ⟨i, hi, rfl⟩ := List.mem_iff_getElem.1 hp
    have hi' : i < L.length := by simp [listI] at hi; exact hi
    have ok := hM.ok L[i] (List.getElem_mem hi')
    simp only [List.getElem_zip] at hpos ⊢
    have hfi : (listI L.length f)[i]'(by simpa [listI] using hi') = f i := by simp [listI]
    rw [hfi] at hpos
    have ht := hE.ti i (by rw [hel]; exact hi') hpos
    rw [ends_at hi'] at ht
    simp only at ht
    obtain ⟨e1, m1⟩ := val_rk (x := listI n x) (i := L[i].1) (by rw [hxl]; omega)
    obtain ⟨e2, m2⟩ := val_rk (x := listI n x) (i := L[i].2.1) (by rw [hxl]; omega)
    rw [e1, e2]
    have := rk_step m1 (b := val (listI n x) L[i].2.1) (by rw [val_list ok.1 ok.2.1, val_list ok.2.2.1 ok.2.2.2.1]; exact ht)
    omega
  · have h1 := h.tk1
    have h2 := h.pos0
    omega
/-- At the start nothing flows. -/
theorem Net.start {x0 : Nat → Int} (hM : May n L) (hx : ∀ v, v < n → 0 ≤ x0 v ∧ x0 v ≤ n) (hf : ∀ i, i < (ends L).length → x0 ((ends L).getD i (0, 0)).1 + 1 ≤ x0 ((ends L).getD i (0, 0)).2) :
    Dag (ends L) n (wtL L) x0 (totF n L) ∧ Net (ends L) n (wtL L) x0 (totF n L) x0 (fun _ => 0) (fun v => supF L v) 0 0 := by
  have hel : (ends L).length = L.length := by simp [ends]
  have hn := hM.n1
  have hl := hM.len
  have hnet0 : ∀ m v, netK (ends L) (fun _ => 0) m v = 0 := by
    intro m v
    induction m with
    | zero => rfl
    | succ m ih => simp [netK, ih]
  have ht1 : 0 ≤ totF n L := by
    rw [tot_list]
    have := sumK_le (g := fun _ => 0) (h := fun v => max 0 (supF L v)) n (fun v _ => by (try simp only); omega)
    rw [sumK_zero] at this
    exact this
  have ht2 : totF n L ≤ 16384000000 * (n : Int) := by
    rw [tot_list]
    have : ∀ m : Nat, sumK (fun v => max 0 (supF L v)) m ≤ 16384000000 * (m : Int) := by
      intro m
      induction m with
      | zero => simp [sumK]
      | succ m ih =>
        have h1 := sup_near hM L.length m
        rw [List.take_length] at h1
        simp only [sumK]
        push_cast
        omega
    exact this n
  refine ⟨⟨by omega, by rw [hel]; omega, fun i hi => ?_, hx, ht1, by omega⟩, ⟨⟨fun i hi => ?_, hf, fun i _ => Int.le_refl _, fun i _ h => absurd h (by omega)⟩, fun v hv => ?_, Int.le_refl _, by omega, fun v _ => Int.le_refl _, fun v _ => by omega, fun v _ _ => rfl, fun v _ _ => by omega, Int.le_refl _, ?_, fun i _ => ?_⟩⟩
  · rw [hel] at hi
    have := hM.ok L[i] (List.getElem_mem hi)
    simp [wtL, List.getD_eq_getElem?_getD, hi]
    omega
  · rw [hel] at hi
    have := hM.ok L[i] (List.getElem_mem hi)
    rw [ends_at hi]
    simp only
    omega
  · unfold netE
    rw [hnet0]
    have := sup_list hM v
    unfold netE at this
    omega
  · rw [tot_list]; omega
  · rw [tot_list]; omega
end
end Go.Proofs.Ytkloaekmjnbacaa.DagM
