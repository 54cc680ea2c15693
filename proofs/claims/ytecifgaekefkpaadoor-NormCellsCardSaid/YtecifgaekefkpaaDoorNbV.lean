/-
  A shape with one edge told from its other end: as many cells, the same first ones, ways from the other end: mathematics. Conditions: a shape that may be written.
  slices.Clone of edges; an edge set in place. Conditions: none.
-/
import Derived.Test.YtecifgaekefkpaaDoorNcN
import Derived.Test.YtecifgaekefkpaaDoorNzDc
import Derived.Test.YtecifgaekefkpaaDoorNzPb
namespace Go.Proofs.YtecifgaekefkpaaDoor
open Go.Proofs.YtecifgaekefkpaaDoor.LexM Go.Proofs.YtecifgaekefkpaaDoor.ParM Go.Proofs.YtecifgaekefkpaaDoor.GrM Go.Proofs.YtecifgaekefkpaaDoor.NmM

/-- The edges, one told from its other end. -/
def swE (E : List Edg) (i : Nat) : List Edg := E.set i (backE (E.getD i noE))
theorem swE_len (E : List Edg) (i : Nat) : (swE E i).length = E.length := List.length_set
theorem swE_at {E : List Edg} {i : Nat} (hi : i < E.length) (j : Nat) : (swE E i).getD j noE = if j = i then backE (E.getD i noE) else E.getD j noE := by
  unfold swE
  rw [List.getD_eq_getElem?_getD, List.getElem?_set]
  by_cases h : i = j
  · subst h
    rw [if_pos rfl, if_pos hi, if_pos rfl]; rfl
  · rw [if_neg h, if_neg (fun e => h e.symm), List.getD_eq_getElem?_getD]
theorem mem_getD {E : List Edg} {i : Nat} (hi : i < E.length) : E.getD i noE ∈ E := by
  rw [List.getD_eq_getElem?_getD, List.getElem?_eq_getElem hi]
  exact List.getElem_mem hi
theorem side_back {n : Nat} {e : Edg} (h : okE n e) : sideT (backE e) = e.2.2.1 := congrArg (fun x : Edg => x.2.2.1) (back_back h.2.2.2.2.1 h.2.2.2.2.2.1 h.2.2.2.2.2.2)
theorem ok_back {n : Nat} {e : Edg} (h : okE n e) : okE n (backE e) := by
  obtain ⟨h1, h2, h3, h4, h5, h6, h7⟩ := h
  refine ⟨h3, h4, h1, h2, ?_, ?_, backT_turns _⟩
  · show 0 ≤ (lastT e.2.2.1 e.2.2.2 + 2) % 4; omega
  · show (lastT e.2.2.1 e.2.2.2 + 2) % 4 ≤ 3; omega
theorem on1_back {n : Nat} {e : Edg} (h : okE n e) (v d : Int) (i : Nat) : (on1 v d i (backE e)).length = (on1 v d i e).length := by
  have hs := side_back h
  have e1 : (backE e).1 = e.2.1 := rfl
  have e2 : (backE e).2.1 = e.1 := rfl
  have e3 : (backE e).2.2.1 = sideT e := rfl
  unfold on1
  rw [hs, e1, e2, e3, List.length_append, List.length_append]
  by_cases ha : e.2.1 = v ∧ sideT e = d
  · by_cases hb : e.1 = v ∧ e.2.2.1 = d
    · rw [if_pos ha, if_pos hb, if_pos hb, if_pos ha]
    · rw [if_pos ha, if_neg hb, if_neg hb, if_pos ha]; rfl
  · by_cases hb : e.1 = v ∧ e.2.2.1 = d
    · rw [if_neg ha, if_pos hb, if_pos hb, if_neg ha]; rfl
    · rw [if_neg ha, if_neg hb, if_neg hb, if_neg ha]
theorem onK_back {B : List Bool} {E : List Edg} (hM : May B E) {i : Nat} (hi : i < E.length) (v d : Int) : ∀ k, (onK (swE E i) v d k).length = (onK E v d k).length
  | 0 => rfl
  | k + 1 => by
    rw [onK, onK, List.length_append, List.length_append, onK_back hM hi v d k, swE_at hi k]
    by_cases h : k = i
    · subst h
      rw [if_pos rfl, on1_back (hM.ok _ (mem_getD hi))]
    · rw [if_neg h]
theorem onL_back {B : List Bool} {E : List Edg} (hM : May B E) {i : Nat} (hi : i < E.length) (v d : Int) : (onL (swE E i) v d).length = (onL E v d).length := by
  unfold onL
  rw [swE_len]
  exact onK_back hM hi v d _
theorem sides_back {B : List Bool} {E : List Edg} (hM : May B E) {i : Nat} (hi : i < E.length) (v : Int) : ∀ k, sidesK (swE E i) v k = sidesK E v k
  | 0 => rfl
  | k + 1 => by rw [sidesK, sidesK, sides_back hM hi v k, onL_back hM hi]
theorem cntV_back {B : List Bool} {E : List Edg} (hM : May B E) {i : Nat} (hi : i < E.length) : ∀ k, cntV B (swE E i) k = cntV B E k
  | 0 => rfl
  | k + 1 => by
    rw [cntV, cntV, cntV_back hM hi k]
    unfold vtxC
    rw [sides_back hM hi]
theorem len_back (e : Edg) : (backE e).2.2.2.length = e.2.2.2.length := backT_len _
theorem bends_back {E : List Edg} {i : Nat} (hi : i < E.length) : bendsOf (swE E i) = bendsOf E := by
  unfold bendsOf swE
  rw [List.map_set, len_back]
  have e : E[i]? = some E[i] := List.getElem?_eq_getElem hi
  rw [List.getD_eq_getElem?_getD, e]
  have h2 : (E.map fun e => e.2.2.2.length).set i (Option.getD (some E[i]) noE).2.2.2.length = E.map fun e => e.2.2.2.length := by
    refine List.ext_getElem? fun j => ?_
    rw [List.getElem?_set]
    by_cases h : i = j
    · subst h
      rw [if_pos rfl, if_pos (by simpa using hi), List.getElem?_map, e]; rfl
    · rw [if_neg h]
  rw [h2]
theorem cntN_back {B : List Bool} {E : List Edg} (hM : May B E) {i : Nat} (hi : i < E.length) : cntN B (swE E i) = cntN B E := by
  unfold cntN
  rw [cntV_back hM hi, bends_back hi]
theorem may_back {B : List Bool} {E : List Edg} (hM : May B E) {i : Nat} (hi : i < E.length) : May B (swE E i) := by
  refine ⟨hM.vs, by rw [swE_len]; exact hM.es, by rw [bends_back hi]; exact hM.bs, fun e he => ?_⟩
  rcases List.mem_or_eq_of_mem_set he with h | h
  · exact hM.ok e h
  · rw [h]; exact ok_back (hM.ok _ (mem_getD hi))
theorem two_back {B : List Bool} {E : List Edg} (hM : May B E) {i : Nat} (hi : i < E.length) : TwoOn B (swE E i) ↔ TwoOn B E := by
  unfold TwoOn
  constructor
  · rintro ⟨v, d, h1, h2, h3, h4⟩
    exact ⟨v, d, h1, h2, h3, by rw [onL_back hM hi] at h4; exact h4⟩
  · rintro ⟨v, d, h1, h2, h3, h4⟩
    exact ⟨v, d, h1, h2, h3, by rw [onL_back hM hi]; exact h4⟩
theorem back_nil {e : Edg} : (backE e).2.2.2 = [] ↔ e.2.2.2 = [] := by
  rw [← List.length_eq_zero_iff, ← List.length_eq_zero_iff, len_back]
theorem self_back {B : List Bool} {E : List Edg} {i : Nat} (hi : i < E.length) : SelfT B (swE E i) ↔ SelfT B E := by
  unfold SelfT
  have key : ∀ j, j < E.length → (((swE E i).getD j noE).1 = ((swE E i).getD j noE).2.1 ∧ ((swE E i).getD j noE).2.2.2 = [] ∧ B.getD ((swE E i).getD j noE).1.toNat false = false ↔
      (E.getD j noE).1 = (E.getD j noE).2.1 ∧ (E.getD j noE).2.2.2 = [] ∧ B.getD (E.getD j noE).1.toNat false = false) := by
    intro j hj
    rw [swE_at hi j]
    by_cases h : j = i
    · subst h
      rw [if_pos rfl, back_nil]
      have e1 : (backE (E.getD j noE)).1 = (E.getD j noE).2.1 := rfl
      have e2 : (backE (E.getD j noE)).2.1 = (E.getD j noE).1 := rfl
      rw [e1, e2]
      constructor
      · rintro ⟨a, b, c⟩; exact ⟨a.symm, b, by rw [← a]; exact c⟩
      · rintro ⟨a, b, c⟩; exact ⟨a.symm, b, by rw [← a]; exact c⟩
    · rw [if_neg h]
  rw [swE_len]
  constructor
  · rintro ⟨j, hj, h⟩; exact ⟨j, hj, (key j hj).1 h⟩
  · rintro ⟨j, hj, h⟩; exact ⟨j, hj, (key j hj).2 h⟩
theorem wr_back {B : List Bool} {E : List Edg} (hM : May B E) {i : Nat} (hi : i < E.length) : wrN B (swE E i) = wrN B E := by
  unfold wrN
  rw [chk_ok hM, chk_ok (may_back hM hi), cntN_back hM hi]
  have n0 : ¬ ((0 : Int) ≠ 0) := by decide
  by_cases h1 : 4096 < cntN B E
  · rw [if_neg n0, if_neg n0, if_pos h1, if_pos h1]
  · rw [if_neg n0, if_neg n0, if_neg h1, if_neg h1]
    by_cases h2 : TwoOn B E
    · rw [if_pos h2, if_pos ((two_back hM hi).2 h2)]
    · rw [if_neg h2, if_neg (fun h => h2 ((two_back hM hi).1 h))]
      by_cases h3 : SelfT B E
      · rw [if_pos h3, if_pos ((self_back hi).2 h3)]
      · rw [if_neg h3, if_neg (fun h => h3 ((self_back hi).1 h))]
/-- The first cells: as many cells as there are ahead. -/
theorem vx_first (B : List Bool) (E : List Edg) : ∀ k, (vxK B E k).2 = (List.range k).map fun v => ((cntV B E v : Nat) : Int)
  | 0 => rfl
  | k + 1 => by
    show (vxK B E k).2 ++ [((vxK B E k).1.n : Int)] = _
    rw [vx_first B E k, (vxK_m B E k).1, List.range_succ, List.map_append]; rfl
theorem fst_back {B : List Bool} {E : List Edg} (hM : May B E) {i : Nat} (hi : i < E.length) : fstS B (swE E i) = fstS B E := by
  unfold fstS
  rw [vx_first, vx_first]
  exact List.map_congr_left fun v _ => by rw [cntV_back hM hi]
theorem fst_at {B : List Bool} {E : List Edg} {v : Nat} (hv : v < B.length) : (fstS B E).getD v 0 = ((cntV B E v : Nat) : Int) := by
  unfold fstS
  rw [vx_first, List.getD_eq_getElem?_getD, List.getElem?_map, List.getElem?_range hv]; rfl
theorem wayS_eq (B : List Bool) (E : List Edg) {j : Nat} (hj : j < E.length) : wayS B E j = wayF (vxK B E B.length).1.en (nbE E j) (cntV B E B.length + bndK E j) j := by
  unfold wayS wayW
  rw [if_pos hj]
theorem wayS_len (B : List Bool) (E : List Edg) {j : Nat} (hj : j < E.length) : (wayS B E j).length = nbE E j + 2 := by
  rw [wayS_eq B E hj, ← wayP_all, wayP_len (Nat.le_refl _)]
theorem wayS_zero (B : List Bool) (E : List Edg) {j : Nat} (hj : j < E.length) : (wayS B E j).getD 0 0 = (vxK B E B.length).1.en.getD (2 * j) 0 := by
  rw [wayS_eq B E hj]; rfl
theorem wayS_last (B : List Bool) (E : List Edg) {j : Nat} (hj : j < E.length) : (wayS B E j).getD (nbE E j + 1) 0 = (vxK B E B.length).1.en.getD (2 * j + 1) 0 := by
  rw [wayS_eq B E hj]
  unfold wayF
  rw [List.getD_cons_succ, List.getD_eq_getElem?_getD, List.getElem?_append_right (by rw [celR_len]; exact Nat.le_refl _), celR_len, Nat.sub_self]; rfl
/-! Where an end at a point stands. -/
theorem set_other {L : List Int} {i t : Nat} (h : i ≠ t) (x : Int) : (L.set i x).getD t 0 = L.getD t 0 := by
  rw [List.getD_eq_getElem?_getD, List.getD_eq_getElem?_getD, List.getElem?_set, if_neg h]
theorem chK_en {way : Int} {l : List Int} {s : NSt} {c : Int} {t : Nat} (h : ∀ x ∈ l, x.toNat ≠ t) : ∀ i, i ≤ l.length → (chK way l s c i).1.en.getD t 0 = s.en.getD t 0
  | 0, _ => rfl
  | i + 1, hi => by
    show (List.set _ _ _).getD t 0 = _
    rw [set_other]
    · exact chK_en h i (by omega)
    · refine h _ ?_
      rw [List.getD_eq_getElem?_getD, List.getElem?_eq_getElem (by omega)]
      exact List.getElem_mem _
theorem bxK_en {E : List Edg} {v : Int} {c t : Nat} {s : NSt} (h : ∀ d : Nat, ∀ x ∈ onL E v d, x.toNat ≠ t) : ∀ d, (bxK E v c s d).en.getD t 0 = s.en.getD t 0
  | 0 => rfl
  | d + 1 => (chK_en (h d) _ (Nat.le_refl _)).trans (bxK_en h d)
theorem ptE_en {l : List Int} {c : Int} {s : NSt} {t : Nat} (h : ∀ x ∈ l, x.toNat ≠ t) : ∀ i, i ≤ l.length → (ptE l c s i).en.getD t 0 = s.en.getD t 0
  | 0, _ => rfl
  | i + 1, hi => by
    show (List.set _ _ _).getD t 0 = _
    rw [set_other]
    · exact ptE_en h i (by omega)
    · refine h _ ?_
      rw [List.getD_eq_getElem?_getD, List.getElem?_eq_getElem (by omega)]
      exact List.getElem_mem _
theorem ptK_en {E : List Edg} {v c : Int} {s : NSt} {t : Nat} (h : ∀ d : Nat, ∀ x ∈ onL E v d, x.toNat ≠ t) : ∀ d, (ptK E v c s d).en.getD t 0 = s.en.getD t 0
  | 0 => rfl
  | d + 1 => (ptE_en (h d) _ (Nat.le_refl _)).trans (ptK_en h d)
theorem ptE_len {l : List Int} {c : Int} {s : NSt} : ∀ i, (ptE l c s i).en.length = s.en.length
  | 0 => rfl
  | i + 1 => by show (List.set _ _ _).length = _; rw [List.length_set]; exact ptE_len i
theorem ptK_len {E : List Edg} {v c : Int} {s : NSt} : ∀ d, (ptK E v c s d).en.length = s.en.length
  | 0 => rfl
  | d + 1 => (ptE_len _).trans (ptK_len d)
theorem set_getD {L : List Int} {i t : Nat} {x : Int} (ht : t < L.length) (h : i = t ∨ L.getD t 0 = x) : (L.set i x).getD t 0 = x := by
  by_cases e : i = t
  · subst e
    rw [List.getD_eq_getElem?_getD, List.getElem?_set, if_pos rfl, if_pos ht]; rfl
  · rw [set_other e]
    exact h.resolve_left e
theorem ptE_keep {l : List Int} {c : Int} {s : NSt} {t : Nat} (ht : t < s.en.length) (h : s.en.getD t 0 = c) : ∀ i, (ptE l c s i).en.getD t 0 = c
  | 0 => h
  | i + 1 => set_getD (by rw [ptE_len]; exact ht) (Or.inr (ptE_keep ht h i))
theorem ptE_in {l : List Int} {c : Int} {s : NSt} {t j : Nat} (ht : t < s.en.length) (hj : (l.getD j 0).toNat = t) : ∀ i, j < i → (ptE l c s i).en.getD t 0 = c
  | 0, h => absurd h (by omega)
  | i + 1, h => by
    by_cases e : j = i
    · subst e
      exact set_getD (by rw [ptE_len]; exact ht) (Or.inl hj)
    · exact set_getD (by rw [ptE_len]; exact ht) (Or.inr (ptE_in ht hj i (by omega)))
theorem ptK_in {E : List Edg} {v c x : Int} {s : NSt} {t q : Nat} (ht : t < s.en.length) (hx : x ∈ onL E v q) (hxt : x.toNat = t) : ∀ d, q < d → (ptK E v c s d).en.getD t 0 = c
  | 0, h => absurd h (by omega)
  | d + 1, h => by
    by_cases e : q = d
    · subst e
      obtain ⟨j, hj, hjx⟩ := List.getElem_of_mem hx
      exact ptE_in (j := j) (by rw [ptK_len]; exact ht) (by rw [List.getD_eq_getElem?_getD, List.getElem?_eq_getElem hj, hjx]; exact hxt) _ hj
    · exact ptE_keep (by rw [ptK_len]; exact ht) (ptK_in ht hx hxt d (by omega)) _
/-- At whose vertex an end stands. -/
theorem end_vx {E : List Edg} {v d x : Int} (h : x ∈ onL E v d) : ∃ i : Nat, i < E.length ∧ ((x = 2 * (i : Int) ∧ (E.getD i noE).1 = v) ∨ (x = 2 * (i : Int) + 1 ∧ (E.getD i noE).2.1 = v)) := by
  obtain ⟨i, hi, h1⟩ := onK_mem.1 h
  rcases on1_mem.1 h1 with ⟨a, b, _⟩ | ⟨a, b, _⟩
  · exact ⟨i, hi, Or.inl ⟨a, b⟩⟩
  · exact ⟨i, hi, Or.inr ⟨a, b⟩⟩
theorem en_point {B : List Bool} {E : List Edg} {v t q : Nat} {x : Int} (hb : B.getD v false = false) (hq : q < 4) (hx : x ∈ onL E (v : Int) (q : Int)) (hxt : x = (t : Int)) : ∀ k, v < k → (vxK B E k).1.en.getD t 0 = ((cntV B E v : Nat) : Int)
  | 0, h => absurd h (by omega)
  | k + 1, h => by
    have hn := (vxK_m B E k).1
    have hl := (vxK_m B E k).2.1
    have ht : t < 2 * E.length := by
      obtain ⟨i, hi, h1 | h1⟩ := end_vx hx <;> omega
    show (if B.getD k false = true then bxN E k (vxK B E k).1 else ptN E k (vxK B E k).1).en.getD t 0 = _
    by_cases e : v = k
    · subst e
      rw [hb, if_neg (by decide)]
      rw [← hn]
      exact ptK_in (s := moN (vxK B E v).1) (by show t < (vxK B E v).1.en.length; rw [hl]; exact ht) hx (by omega) 4 hq
    · have hne : ∀ d : Nat, ∀ y ∈ onL E (k : Int) (d : Int), y.toNat ≠ t := by
        intro d y hy e2
        obtain ⟨i, hi, h1⟩ := end_vx hx
        obtain ⟨j, hj, h2⟩ := end_vx hy
        have hij : i = j := by omega
        subst hij
        rcases h1 with ⟨a, b⟩ | ⟨a, b⟩
        · rcases h2 with ⟨a', b'⟩ | ⟨a', b'⟩
          · omega
          · omega
        · rcases h2 with ⟨a', b'⟩ | ⟨a', b'⟩
          · omega
          · omega
      have ih := en_point hb hq hx hxt k (by omega)
      by_cases hk : B.getD k false = true
      · rw [if_pos hk]
        exact (bxK_en (s := { (vxK B E k).1 with L := (vxK B E k).1.L ++ newG 4, n := (vxK B E k).1.n + 4 }) hne 4).trans ih
      · rw [if_neg hk]
        exact (ptK_en (s := moN (vxK B E k).1) hne 4).trans ih
theorem ends_point {B : List Bool} {E : List Edg} (hM : May B E) {i : Nat} (hi : i < E.length) :
    (B.getD (E.getD i noE).1.toNat false = false → (vxK B E B.length).1.en.getD (2 * i) 0 = ((cntV B E (E.getD i noE).1.toNat : Nat) : Int)) ∧
    (B.getD (E.getD i noE).2.1.toNat false = false → (vxK B E B.length).1.en.getD (2 * i + 1) 0 = ((cntV B E (E.getD i noE).2.1.toNat : Nat) : Int)) := by
  have hok := hM.ok _ (mem_getD hi)
  obtain ⟨h1, h2, h3, h4, h5, h6, h7⟩ := hok
  refine ⟨fun hb => ?_, fun hb => ?_⟩
  · refine en_point (q := (E.getD i noE).2.2.1.toNat) (x := 2 * (i : Int)) hb (by omega) ?_ (by omega) _ (by omega)
    refine onK_mem.2 ⟨i, hi, on1_mem.2 (Or.inl ⟨rfl, by omega, by omega⟩)⟩
  · have hs : 0 ≤ sideT (E.getD i noE) ∧ sideT (E.getD i noE) ≤ 3 := by unfold sideT; omega
    refine en_point (q := (sideT (E.getD i noE)).toNat) (x := 2 * (i : Int) + 1) hb (by omega) ?_ (by omega) _ (by omega)
    refine onK_mem.2 ⟨i, hi, on1_mem.2 (Or.inr ⟨rfl, by omega, by omega⟩)⟩
/-- The ways there and back. -/
theorem way_back {B : List Bool} {E : List Edg} (hM : May B E) {i : Nat} (hi : i < E.length) : nbE (swE E i) i = nbE E i ∧
    (B.getD (E.getD i noE).1.toNat false = false → B.getD (E.getD i noE).2.1.toNat false = false →
      (wayS B (swE E i) i).getD 0 0 = (wayS B E i).getD (nbE E i + 1) 0 ∧ (wayS B (swE E i) i).getD (nbE E i + 1) 0 = (wayS B E i).getD 0 0) := by
  have hi2 : i < (swE E i).length := by rw [swE_len]; exact hi
  have hn : nbE (swE E i) i = nbE E i := by
    unfold nbE
    rw [swE_at hi i, if_pos rfl, len_back]
  refine ⟨hn, fun h1 h2 => ?_⟩
  obtain ⟨a1, a2⟩ := ends_point hM hi
  obtain ⟨b1, b2⟩ := ends_point (may_back hM hi) hi2
  rw [swE_at hi i, if_pos rfl, cntV_back hM hi] at b1 b2
  have l1 := wayS_last B (swE E i) hi2
  rw [hn] at l1
  rw [wayS_zero B (swE E i) hi2, wayS_last B E hi, l1, wayS_zero B E hi]
  exact ⟨(b1 h2).trans (a2 h2).symm, (b2 h1).trans (a1 h1).symm⟩
end Go.Proofs.YtecifgaekefkpaaDoor

namespace Go.Proofs.YtecifgaekefkpaaDoor
open Go.RowKit Go.Proofs.YtecifgaekefkpaaDoor.LexM Go.Proofs.YtecifgaekefkpaaDoor.ParM Go.Proofs.YtecifgaekefkpaaDoor.GrM

theorem edsNews {w : World} {a : Addr} {n c : Nat} {E : List Edg} (h : EdsAt w (.slice (some a) n c) E) (h0 : 0 < E.length) : ∀ j z, (E.flatMap encE)[j]? = some z → w.cell? (a.add j) = some z := by
  obtain ⟨A, cap, e, _, hA⟩ := h
  obtain ⟨b, o, e2, _, hc⟩ := hA h0
  injection e with e3
  rw [e2] at e3
  injection e3 with e3
  subst e3
  intro j z hz
  have hl := flat_len encE encE_len E
  have hj : j < E.length * 4 := by
    have := (List.getElem?_eq_some_iff.1 hz).1
    omega
  have hk : j / 4 < E.length := by omega
  obtain ⟨c0, c1, c2, c3⟩ := hc (j / 4) hk
  have ha : ((⟨b, o, none⟩ : Addr).add j) = ⟨b, o + (j / 4) * 4 + j % 4, none⟩ := by
    have h1 : ((⟨b, o, none⟩ : Addr).add j) = ⟨b, o + j, none⟩ := by unfold Addr.add; split <;> simp_all
    rw [h1]
    congr 1
    omega
  rw [ha]
  rw [show j = (j / 4) * 4 + j % 4 by omega, edg_at E (j / 4) hk (j % 4) (by omega)] at hz
  have hr : j % 4 = 0 ∨ j % 4 = 1 ∨ j % 4 = 2 ∨ j % 4 = 3 := by omega
  rcases hr with e | e | e | e
  · rw [e] at hz ⊢; rw [Nat.add_zero, c0]; simpa [encE] using hz
  · rw [e] at hz ⊢; rw [c1]; simpa [encE] using hz
  · rw [e] at hz ⊢; rw [c2]; simpa [encE] using hz
  · rw [e] at hz ⊢; rw [c3]; simpa [encE] using hz
theorem allE (E : List Edg) : ∀ u ∈ E.flatMap encE, u.oneCell' = true := fun u hu => by
  obtain ⟨e, _, h⟩ := List.mem_flatMap.1 hu
  exact encE_one e u h
def CopE (E : List Edg) (n : Nat) (w : World) (e : Ending) (w' : World) : Prop := ∃ A c, e = .returned (.slice A n c) ∧ OwnE w' w.heap.size (.slice A n c) E ∧ Below w.heap.size w w'
set_option maxHeartbeats 4000000 in
theorem cloneE (lv : Value) (E : List Edg) (n : Nat) (w : World) (h : EdsAt w lv E) (hl : E.length = n) (h0 : 0 < n) (hn : n ≤ 100000) :
    Calls Tryd.prog 15 #[lv] w (CopE E n w) := by
  obtain ⟨i0, hi, hz0, hz1, hz2⟩ := info_of infoE4
  have qe : ∀ (w : World) (a : Option Addr) (n c n' c' : Nat), (binOp .eql 27 (.slice a n c) (.slice none n' c')).run Tryd.prog w = .ok (.bool a.isNone) w := fun w a n c n' c' => Lib.run_eql_slice_nil w _ _ a n c n' c' Tryd.underlying27
  obtain ⟨A, c, rfl⟩ := h.form
  rw [hl] at h ⊢
  cases A with
  | none =>
    obtain ⟨A', c', e, _, hA⟩ := h
    obtain ⟨b, o, e2, _⟩ := hA (by omega)
    subst e2
    cases e
  | some a =>
    have NW := Lib.hid (edsNews h (by omega))
    have FL : Hid ((E.flatMap encE).length = n * 4) := Lib.hid (by rw [flat_len encE encE_len E, hl])
    have HL := Lib.hid hl
    clear h hl
    go_enter Tryd.func15, Tryd.ntmps15
    go_wp2_with (at_builtin; refine wpList_append_fresh rfl (.tmp 5) (.tmp 6) 27 rfl w.heap.size 54 i0 (.agg #[.int .i64 0, .int .i64 0, .int .i64 0, .string ByteArray.empty]) 4 40 Tryd.underlying27 hi hz0 hz1 hz2 rfl (by decide) (.slice (some ⟨w.heap.size, 0, none⟩) 0 0) 0 [] rfl (own_none8 w _ _) a n c (E.flatMap encE) rfl FL.out (fun j z hj => by have h1 := NW.out j z hj; exact (World.cell?_alloc_lt w _ _ (World.block_lt_of_cell? w _ h1)).trans h1) (allE _) (by unfold maxLen; omega) (by omega) (by simp) ?_; intro v4 w4 hown hgrow hfr; have o4 : OwnE w4 w.heap.size v4 E := (by unfold OwnE; rw [HL.out]; simpa using hown); obtain ⟨a4, c4, e4⟩ := o4.form; rw [HL.out] at e4; subst e4; have O4 := Lib.hid o4; have B4 : Hid (RowKit.Below w.heap.size w w4) := Lib.hid (((Below.refl _ _).alloc (Nat.le_refl _) _).trans (((Out.refl _ _).grown (S := fun b => b = w.heap.size) hgrow (fun k _ e => by simp [Value.ownBlock] at e; exact e.symm)).below (B := w.heap.size) (by simp) (fun i _ e => by omega))); clear hown hgrow hfr o4)
    go_ret
    exact ⟨_, _, rfl, O4.out, B4.out⟩
/-- A row of edges in which one was set. -/
theorem flat_setE (E : List Edg) (i : Nat) (x : Edg) : (E.set i x).flatMap encE = ((((E.flatMap encE).set (i * 4) (.int .i64 x.1)).set (i * 4 + 1) (.int .i64 x.2.1)).set (i * 4 + 2) (.int .i64 x.2.2.1)).set (i * 4 + 3) (.string (bs x.2.2.2)) := by
  have hl := flat_len encE encE_len E
  have hl2 := flat_len encE encE_len (E.set i x)
  refine List.ext_getElem? fun j => ?_
  by_cases hj : j < E.length * 4
  · have hk : j / 4 < E.length := by omega
    have hj2 : j = (j / 4) * 4 + j % 4 := by omega
    have h1 := edg_at (E.set i x) (j / 4) (by rw [List.length_set]; exact hk) (j % 4) (by omega)
    have h2 := edg_at E (j / 4) hk (j % 4) (by omega)
    rw [← hj2] at h1 h2
    rw [h1, List.getElem_set]
    simp only [List.getElem?_set, List.length_set, h2]
    have hr : j % 4 = 0 ∨ j % 4 = 1 ∨ j % 4 = 2 ∨ j % 4 = 3 := by omega
    by_cases e : i = j / 4
    · rw [if_pos e]
      rcases hr with e1 | e1 | e1 | e1
      · rw [e1, if_neg (by omega), if_neg (by omega), if_neg (by omega), if_pos (by omega), if_pos (by omega)]; rfl
      · rw [e1, if_neg (by omega), if_neg (by omega), if_pos (by omega), if_pos (by omega)]; rfl
      · rw [e1, if_neg (by omega), if_pos (by omega), if_pos (by omega)]; rfl
      · rw [e1, if_pos (by omega), if_pos (by omega)]; rfl
    · rw [if_neg e, if_neg (by omega), if_neg (by omega), if_neg (by omega), if_neg (by omega)]
  · rw [List.getElem?_eq_none (by rw [hl2, List.length_set]; omega), List.getElem?_eq_none (by simp only [List.length_set]; omega)]
theorem OwnE.put {w : World} {B g n c : Nat} {E : List Edg} (h : OwnE w B (.slice (some ⟨g, 0, none⟩) n c) E) (hn : E.length = n) (i : Nat) (x : Edg) :
    OwnE ((((w.setCell ⟨g, i * 4, none⟩ (.int .i64 x.1)).setCell ⟨g, i * 4 + 1, none⟩ (.int .i64 x.2.1)).setCell ⟨g, i * 4 + 2, none⟩ (.int .i64 x.2.2.1)).setCell ⟨g, i * 4 + 3, none⟩ (.string (bs x.2.2.2))) B (.slice (some ⟨g, 0, none⟩) n c) (E.set i x) := by
  unfold OwnE at h ⊢
  rw [flat_setE E i, List.length_set]
  rw [hn] at h ⊢
  have h1 := (World.ownsRow.stored h (i * 4) (.int .i64 x.1)).1
  have h2 := (World.ownsRow.stored h1 (i * 4 + 1) (.int .i64 x.2.1)).1
  have h3 := (World.ownsRow.stored h2 (i * 4 + 2) (.int .i64 x.2.2.1)).1
  exact (World.ownsRow.stored h3 (i * 4 + 3) (.string (bs x.2.2.2))).1
end Go.Proofs.YtecifgaekefkpaaDoor
