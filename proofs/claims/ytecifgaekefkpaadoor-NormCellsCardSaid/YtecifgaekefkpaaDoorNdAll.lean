/-
  Joins none of which is refused: which sides have a next one then: mathematics. Conditions: none.
  Where the ends of a shape's edges stand: each end on one side of one vertex, at one cell: mathematics. Conditions: a shape that may be written.
  The joins of a shape's boxes and edges: no two tell one side, none is refused: mathematics. Conditions: a shape that may be written, nothing wrong with it.
  What a shape's cells are like: they may be; which sides have a next one, whose they are, how many: mathematics. Conditions: a shape that may be written, nothing wrong with it.
  NormCells' closure 'degree': how many next ones a cell has. Conditions: the cells read as they stand.
-/
import Derived.Test.YtecifgaekefkpaaDoorNmK
import Derived.Test.YtecifgaekefkpaaDoorNbV
import Derived.Test.YtecifgaekefkpaaDoorNmL
import Derived.Test.YtecifgaekefkpaaDoorNcV
namespace Go.Proofs.YtecifgaekefkpaaDoor
open Go.Proofs.YtecifgaekefkpaaDoor.LexM Go.Proofs.YtecifgaekefkpaaDoor.ParM Go.Proofs.YtecifgaekefkpaaDoor.GrM Go.Proofs.YtecifgaekefkpaaDoor.NmM

theorem jnA_good {N : Nat} : ∀ (J : List Jn) {L : List Int}, L.length = N * 8 → GoodG L N → GoodG (jnA N L J) N
  | [], _, _, h => h
  | j :: J, L, hl, h => jnA_good J (L := jn1 N L j) (joiO_len.trans hl) (joi_good hl h)
/-- A join's two sides. -/
def prJ (j : Jn) : List (Nat × Nat) := [(j.1.toNat, j.2.1.toNat), (j.2.2.1.toNat, opp j.2.1.toNat)]
theorem jn_free {N : Nat} {L : List Int} {P : List (Nat × Nat)} {j : Jn} (hl : L.length = N * 8) (hP : ∀ a e, a < N → e < 4 → (nxG L a e ≠ -1 ↔ (a, e) ∈ P)) (hb : ¬ badJ N j.1 j.2.1 j.2.2.1 j.2.2.2)
    (h1 : (j.1.toNat, j.2.1.toNat) ∉ P) (h2 : (j.2.2.1.toNat, opp j.2.1.toNat) ∉ P) : ∀ a e, a < N → e < 4 → (nxG (jn1 N L j) a e ≠ -1 ↔ (a, e) ∈ P ++ prJ j) := by
  intro a e ha he
  unfold jn1 joiO
  have hb' := hb
  unfold badJ at hb'
  have n1 : nxG L j.1.toNat j.2.1.toNat = -1 := by
    by_cases h : nxG L j.1.toNat j.2.1.toNat = -1
    · exact h
    · exact absurd ((hP _ _ (by omega) (by omega)).1 h) h1
  have n2 : nxG L j.2.2.1.toNat (opp j.2.1.toNat) = -1 := by
    by_cases h : nxG L j.2.2.1.toNat (opp j.2.1.toNat) = -1
    · exact h
    · exact absurd ((hP _ _ (by omega) (opp_lt _)).1 h) h2
  rw [if_neg hb, if_neg (by rintro (h | h) <;> contradiction)]
  show nxG (joinG L j.1.toNat j.2.1.toNat j.2.2.1.toNat j.2.2.2) a e ≠ -1 ↔ _
  rw [nx_join j.2.2.2 hl (by omega) (by omega) (by omega) he]
  unfold prJ
  rw [List.mem_append]
  by_cases c1 : a = j.2.2.1.toNat ∧ e = opp j.2.1.toNat
  · rw [if_pos c1]
    refine ⟨fun _ => Or.inr ?_, fun _ => by omega⟩
    rw [c1.1, c1.2]; simp
  · rw [if_neg c1]
    by_cases c2 : a = j.1.toNat ∧ e = j.2.1.toNat
    · rw [if_pos c2]
      refine ⟨fun _ => Or.inr ?_, fun _ => by omega⟩
      rw [c2.1, c2.2]; simp
    · rw [if_neg c2, hP a e ha he]
      refine ⟨Or.inl, fun h => h.resolve_right fun h => ?_⟩
      simp only [List.mem_cons, Prod.mk.injEq, List.not_mem_nil, or_false] at h
      rcases h with h | h
      · exact c2 h
      · exact c1 h
/-- Where all sides are told once, a side has a next one just where a join tells it. -/
theorem jnA_free {N : Nat} : ∀ (J : List Jn) {L : List Int} {P : List (Nat × Nat)}, L.length = N * 8 → (∀ a e, a < N → e < 4 → (nxG L a e ≠ -1 ↔ (a, e) ∈ P)) → (∀ j ∈ J, ¬ badJ N j.1 j.2.1 j.2.2.1 j.2.2.2) → (P ++ J.flatMap prJ).Nodup →
    ∀ a e, a < N → e < 4 → (nxG (jnA N L J) a e ≠ -1 ↔ (a, e) ∈ P ++ J.flatMap prJ)
  | [], L, P, _, hP, _, _, a, e, ha, he => by
    rw [List.flatMap_nil, List.append_nil]
    exact hP a e ha he
  | j :: J, L, P, hl, hP, hb, hn, a, e, ha, he => by
    rw [List.flatMap_cons, ← List.append_assoc] at hn ⊢
    have hd := (List.nodup_append.1 (List.nodup_append.1 hn).1).2.2
    refine jnA_free J (L := jn1 N L j) (P := P ++ prJ j) (joiO_len.trans hl) (jn_free hl hP (hb j (by simp)) (fun h => hd _ h _ (by unfold prJ; simp) rfl) (fun h => hd _ h _ (by unfold prJ; simp) rfl)) (fun k hk => hb k (by simp [hk])) hn a e ha he
/-- Whose a side is: a join leaves all other sides as they were. -/
theorem jn_keep {N : Nat} {L : List Int} {j : Jn} (hl : L.length = N * 8) {a e : Nat} (he : e < 4) (h : (a, e) ∉ prJ j) : owG (jn1 N L j) a e = owG L a e := by
  unfold jn1 joiO
  by_cases hb : badJ N j.1 j.2.1 j.2.2.1 j.2.2.2
  · rw [if_pos hb]
  · rw [if_neg hb]
    by_cases h2 : nxG L j.1.toNat j.2.1.toNat ≠ -1 ∨ nxG L j.2.2.1.toNat (opp j.2.1.toNat) ≠ -1
    · rw [if_pos h2]
    · rw [if_neg h2]
      unfold badJ at hb
      show owG (joinG L j.1.toNat j.2.1.toNat j.2.2.1.toNat j.2.2.2) a e = _
      rw [ow_join j.2.2.2 hl (by omega) (by omega) (by omega) he, if_neg, if_neg]
      · rintro ⟨rfl, rfl⟩; exact h (by unfold prJ; simp)
      · rintro ⟨rfl, rfl⟩; exact h (by unfold prJ; simp)
theorem jnA_keep {N : Nat} : ∀ (J : List Jn) {L : List Int}, L.length = N * 8 → ∀ a e, e < 4 → (a, e) ∉ J.flatMap prJ → owG (jnA N L J) a e = owG L a e
  | [], _, _, _, _, _, _ => rfl
  | j :: J, L, hl, a, e, he, h => by
    rw [List.flatMap_cons, List.mem_append, not_or] at h
    exact (jnA_keep J (L := jn1 N L j) (joiO_len.trans hl) a e he h.2).trans (jn_keep hl he h.1)
theorem jnA_own {N : Nat} : ∀ (J : List Jn) {L : List Int} {P : List (Nat × Nat)}, L.length = N * 8 → (∀ a e, a < N → e < 4 → (nxG L a e ≠ -1 ↔ (a, e) ∈ P)) → (∀ j ∈ J, ¬ badJ N j.1 j.2.1 j.2.2.1 j.2.2.2) → (P ++ J.flatMap prJ).Nodup →
    ∀ j ∈ J, ∀ a e, (a, e) ∈ prJ j → owG (jnA N L J) a e = j.2.2.2
  | [], _, _, _, _, _, _, _, hj, _, _, _ => absurd hj (by simp)
  | k :: J, L, P, hl, hP, hb, hn, j, hj, a, e, hp => by
    rw [List.flatMap_cons, ← List.append_assoc] at hn
    have hd := (List.nodup_append.1 (List.nodup_append.1 hn).1).2.2
    have hd2 := (List.nodup_append.1 hn).2.2
    have hbk := hb k (by simp)
    rcases List.mem_cons.1 hj with rfl | hj
    · have he : e < 4 := by
        unfold badJ at hbk
        unfold prJ at hp
        simp only [List.mem_cons, Prod.mk.injEq, List.not_mem_nil, or_false] at hp
        rcases hp with ⟨_, h⟩ | ⟨_, h⟩
        · omega
        · rw [h]; exact opp_lt _
      have hk : (a, e) ∉ J.flatMap prJ := fun h => hd2 _ (List.mem_append_right _ hp) _ h rfl
      refine (jnA_keep J (L := jn1 N L j) (joiO_len.trans hl) a e he hk).trans ?_
      have hb' := hbk
      unfold badJ at hb'
      have n1 : nxG L j.1.toNat j.2.1.toNat = -1 := by
        by_cases h : nxG L j.1.toNat j.2.1.toNat = -1
        · exact h
        · exact absurd rfl (hd _ ((hP _ _ (by omega) (by omega)).1 h) _ (by unfold prJ; simp))
      have n2 : nxG L j.2.2.1.toNat (opp j.2.1.toNat) = -1 := by
        by_cases h : nxG L j.2.2.1.toNat (opp j.2.1.toNat) = -1
        · exact h
        · exact absurd rfl (hd _ ((hP _ _ (by omega) (opp_lt _)).1 h) _ (by unfold prJ; simp))
      unfold jn1 joiO
      rw [if_neg hbk, if_neg (by rintro (h | h) <;> contradiction)]
      show owG (joinG L j.1.toNat j.2.1.toNat j.2.2.1.toNat j.2.2.2) a e = _
      rw [ow_join j.2.2.2 hl (by omega) (by omega) (by omega) he]
      by_cases c1 : a = j.2.2.1.toNat ∧ e = opp j.2.1.toNat
      · rw [if_pos c1]
      · rw [if_neg c1, if_pos]
        unfold prJ at hp
        simp only [List.mem_cons, Prod.mk.injEq, List.not_mem_nil, or_false] at hp
        exact hp.resolve_right c1
    · exact jnA_own J (L := jn1 N L k) (P := P ++ prJ k) (joiO_len.trans hl) (jn_free hl hP hbk (fun h => hd _ h _ (by unfold prJ; simp) rfl) (fun h => hd _ h _ (by unfold prJ; simp) rfl)) (fun q hq => hb q (by simp [hq])) hn j hj a e hp
end Go.Proofs.YtecifgaekefkpaaDoor

namespace Go.Proofs.YtecifgaekefkpaaDoor
open Go.Proofs.YtecifgaekefkpaaDoor.LexM Go.Proofs.YtecifgaekefkpaaDoor.ParM Go.Proofs.YtecifgaekefkpaaDoor.GrM Go.Proofs.YtecifgaekefkpaaDoor.NmM

/-- An end's vertex, its side. -/
def vEn (E : List Edg) (t : Nat) : Nat := if t % 2 = 0 then (E.getD (t / 2) noE).1.toNat else (E.getD (t / 2) noE).2.1.toNat
def dEn (E : List Edg) (t : Nat) : Nat := if t % 2 = 0 then (E.getD (t / 2) noE).2.2.1.toNat else (sideT (E.getD (t / 2) noE)).toNat
theorem side_rg (e : Edg) : 0 ≤ sideT e ∧ sideT e ≤ 3 := by unfold sideT; omega
theorem en_rg {B : List Bool} {E : List Edg} (hM : May B E) {t : Nat} (ht : t < 2 * E.length) : vEn E t < B.length ∧ dEn E t < 4 := by
  obtain ⟨h1, h2, h3, h4, h5, h6, h7⟩ := hM.ok _ (mem_getD (show t / 2 < E.length by omega))
  have hs := side_rg (E.getD (t / 2) noE)
  unfold vEn dEn
  split <;> omega
/-- Which ends stand on a side. -/
theorem mem_end {B : List Bool} {E : List Edg} (hM : May B E) {v d : Nat} {x : Int} : x ∈ onL E (v : Int) (d : Int) ↔ ∃ t : Nat, x = (t : Int) ∧ t < 2 * E.length ∧ vEn E t = v ∧ dEn E t = d := by
  unfold onL
  rw [onK_mem]
  constructor
  · rintro ⟨i, hi, h⟩
    obtain ⟨h1, h2, h3, h4, h5, h6, h7⟩ := hM.ok _ (mem_getD hi)
    have hs := side_rg (E.getD i noE)
    rcases on1_mem.1 h with ⟨a, b, c⟩ | ⟨a, b, c⟩
    · refine ⟨2 * i, by omega, by omega, ?_, ?_⟩
      · unfold vEn; rw [if_pos (by omega), show 2 * i / 2 = i by omega]; omega
      · unfold dEn; rw [if_pos (by omega), show 2 * i / 2 = i by omega]; omega
    · refine ⟨2 * i + 1, by omega, by omega, ?_, ?_⟩
      · unfold vEn; rw [if_neg (by omega), show (2 * i + 1) / 2 = i by omega]; omega
      · unfold dEn; rw [if_neg (by omega), show (2 * i + 1) / 2 = i by omega]; omega
  · rintro ⟨t, rfl, ht, hv, hd⟩
    obtain ⟨h1, h2, h3, h4, h5, h6, h7⟩ := hM.ok _ (mem_getD (show t / 2 < E.length by omega))
    have hs := side_rg (E.getD (t / 2) noE)
    refine ⟨t / 2, by omega, on1_mem.2 ?_⟩
    unfold vEn at hv
    unfold dEn at hd
    by_cases h : t % 2 = 0
    · rw [if_pos h] at hv hd
      exact Or.inl ⟨by omega, by omega, by omega⟩
    · rw [if_neg h] at hv hd
      exact Or.inr ⟨by omega, by omega, by omega⟩
theorem onK_rg {E : List Edg} {v d x : Int} {k : Nat} (h : x ∈ onK E v d k) : 0 ≤ x ∧ x < 2 * (k : Int) := by
  obtain ⟨i, hi, h⟩ := onK_mem.1 h
  rcases on1_mem.1 h with ⟨a, _⟩ | ⟨a, _⟩ <;> omega
theorem on1_sorted (v d : Int) (i : Nat) (e : Edg) : (on1 v d i e).Pairwise (· < ·) := by
  unfold on1
  split <;> split <;> simp <;> omega
theorem onK_sorted (E : List Edg) (v d : Int) : ∀ k, (onK E v d k).Pairwise (· < ·)
  | 0 => by simp [onK]
  | k + 1 => by
    rw [onK, List.pairwise_append]
    refine ⟨onK_sorted E v d k, on1_sorted _ _ _ _, fun a ha b hb => ?_⟩
    have := onK_rg ha
    rcases on1_mem.1 hb with ⟨h, _⟩ | ⟨h, _⟩ <;> omega
theorem onL_at {E : List Edg} {v d : Int} {j : Nat} (h : j < (onL E v d).length) : (onL E v d).getD j 0 ∈ onL E v d := by
  rw [List.getD_eq_getElem?_getD, List.getElem?_eq_getElem h]; exact List.getElem_mem _
theorem onL_inj {E : List Edg} {v d : Int} {i j : Nat} (hi : i < (onL E v d).length) (hj : j < (onL E v d).length) (h : (onL E v d).getD i 0 = (onL E v d).getD j 0) : i = j := by
  have hs := onK_sorted E v d E.length
  rw [List.pairwise_iff_getElem] at hs
  rw [List.getD_eq_getElem?_getD, List.getD_eq_getElem?_getD, List.getElem?_eq_getElem hi, List.getElem?_eq_getElem hj] at h
  have h' : (onL E v d)[i] = (onL E v d)[j] := h
  rcases Nat.lt_trichotomy i j with c | c | c
  · have : (onL E v d)[i] < (onL E v d)[j] := hs i j hi hj c
    omega
  · exact c
  · have : (onL E v d)[j] < (onL E v d)[i] := hs j i hj hi c
    omega
/-! Where an end at a box stands. -/
theorem chK_in {way : Int} {l : List Int} {s : NSt} {c : Int} {t j : Nat} (ht : t < s.en.length) (hj : j < l.length) (hjt : l.getD j 0 = (t : Int)) (hu : ∀ i, i < l.length → l.getD i 0 = (t : Int) → i = j) (hp : ∀ x ∈ l, 0 ≤ x) : ∀ i, i ≤ l.length → j < i → (chK way l s c i).1.en.getD t 0 = ((s.n + j : Nat) : Int)
  | 0, _, h => absurd h (by omega)
  | i + 1, hi, h => by
    show (List.set _ _ _).getD t 0 = _
    obtain ⟨hn, hl⟩ := chK_m (way := way) (l := l) (s := s) (c := c) i
    by_cases e : j = i
    · subst e
      rw [hjt]
      show ((chK way l s c j).1.en.set (Int.toNat (t : Int)) _).getD t 0 = _
      rw [Int.toNat_natCast, List.getD_eq_getElem?_getD, List.getElem?_set, if_pos rfl, if_pos (by rw [hl]; exact ht), ← hn]; rfl
    · rw [set_other]
      · exact chK_in ht hj hjt hu hp i (by omega) (by omega)
      · intro e2
        have hm : l.getD i 0 ∈ l := by rw [List.getD_eq_getElem?_getD, List.getElem?_eq_getElem (by omega)]; exact List.getElem_mem _
        have := hp _ hm
        exact e (hu i (by omega) (by omega)).symm
theorem en_other {B : List Bool} {E : List Edg} (hM : May B E) {t v d : Nat} (h : ¬ (vEn E t = v ∧ dEn E t = d)) : ∀ x ∈ onL E (v : Int) (d : Int), x.toNat ≠ t := by
  intro x hx e
  obtain ⟨u, rfl, _, h1, h2⟩ := (mem_end hM).1 hx
  rw [Int.toNat_natCast] at e
  subst e
  exact h ⟨h1, h2⟩
theorem onL_pos {E : List Edg} {v d : Int} : ∀ x ∈ onL E v d, 0 ≤ x := fun _ hx => (onK_rg hx).1
theorem bxK_in {B : List Bool} {E : List Edg} (hM : May B E) {v q c t j : Nat} {s : NSt} (ht : t < s.en.length) (hj : j < (onL E (v : Int) (q : Int)).length) (hjt : (onL E (v : Int) (q : Int)).getD j 0 = (t : Int)) : ∀ d, q < d → (bxK E v c s d).en.getD t 0 = ((s.n + sidesK E (v : Int) q + j : Nat) : Int)
  | 0, h => absurd h (by omega)
  | d + 1, h => by
    obtain ⟨hn, hl⟩ := bxK_m (E := E) (v := (v : Int)) (c := c) (s := s) d
    show (chK (wyC d) (onL E v d) (bxK E v c s d) (frC c d) (onL E v d).length).1.en.getD t 0 = _
    by_cases e : q = d
    · subst e
      rw [chK_in (by rw [hl]; exact ht) hj hjt (fun i hi h2 => onL_inj hi hj (h2.trans hjt.symm)) onL_pos _ (Nat.le_refl _) hj, hn]
    · obtain ⟨u, e1, _, e2, e3⟩ := (mem_end hM).1 (onL_at hj)
      rw [hjt] at e1
      have e1 : t = u := by omega
      subst e1
      rw [chK_en (en_other hM (fun h => e (e3.symm.trans h.2))) _ (Nat.le_refl _)]
      exact bxK_in hM ht hj hjt d (by omega)
theorem en_box {B : List Bool} {E : List Edg} (hM : May B E) {v t q j : Nat} (hb : B.getD v false = true) (hq : q < 4) (hj : j < (onL E (v : Int) (q : Int)).length) (hjt : (onL E (v : Int) (q : Int)).getD j 0 = (t : Int)) : ∀ k, v < k → (vxK B E k).1.en.getD t 0 = ((cntV B E v + 4 + sidesK E (v : Int) q + j : Nat) : Int)
  | 0, h => absurd h (by omega)
  | k + 1, h => by
    have hn := (vxK_m B E k).1
    have hl := (vxK_m B E k).2.1
    obtain ⟨u, e1, ht, e2, e3⟩ := (mem_end hM).1 (onL_at hj)
    rw [hjt] at e1
    have e1 : t = u := by omega
    subst e1
    show (if B.getD k false = true then bxN E k (vxK B E k).1 else ptN E k (vxK B E k).1).en.getD t 0 = _
    by_cases e : v = k
    · subst e
      rw [if_pos hb, ← hn]
      exact bxK_in (s := { (vxK B E v).1 with L := (vxK B E v).1.L ++ newG 4, n := (vxK B E v).1.n + 4 }) hM (by show t < (vxK B E v).1.en.length; rw [hl]; exact ht) hj hjt 4 hq
    · have hne : ∀ d : Nat, ∀ y ∈ onL E (k : Int) (d : Int), y.toNat ≠ t := fun d => en_other hM (fun h => e (e2.symm.trans h.1))
      have ih := en_box hM hb hq hj hjt k (by omega)
      by_cases hk : B.getD k false = true
      · rw [if_pos hk]
        exact (bxK_en (s := { (vxK B E k).1 with L := (vxK B E k).1.L ++ newG 4, n := (vxK B E k).1.n + 4 }) hne 4).trans ih
      · rw [if_neg hk]
        exact (ptK_en (s := moN (vxK B E k).1) hne 4).trans ih
/-- An end's cell. -/
noncomputable def cEn (B : List Bool) (E : List Edg) (t : Nat) : Nat := ((vxK B E B.length).1.en.getD t 0).toNat
theorem cEn_int (B : List Bool) (E : List Edg) (t : Nat) : (vxK B E B.length).1.en.getD t 0 = ((cEn B E t : Nat) : Int) := by
  have := (ok_vx B E B.length t).1
  unfold cEn; omega
theorem cEn_point {B : List Bool} {E : List Edg} (hM : May B E) {t : Nat} (ht : t < 2 * E.length) (hb : B.getD (vEn E t) false = false) : cEn B E t = cntV B E (vEn E t) := by
  obtain ⟨h1, h2⟩ := en_rg hM ht
  have := en_point (q := dEn E t) (x := (t : Int)) hb h2 ((mem_end hM).2 ⟨t, rfl, ht, rfl, rfl⟩) rfl B.length h1
  unfold cEn; omega
theorem cEn_box {B : List Bool} {E : List Edg} (hM : May B E) {t : Nat} (ht : t < 2 * E.length) (hb : B.getD (vEn E t) false = true) :
    ∃ j, j < (onL E (vEn E t : Int) (dEn E t : Int)).length ∧ (onL E (vEn E t : Int) (dEn E t : Int)).getD j 0 = (t : Int) ∧ cEn B E t = cntV B E (vEn E t) + 4 + sidesK E (vEn E t : Int) (dEn E t) + j := by
  obtain ⟨h1, h2⟩ := en_rg hM ht
  obtain ⟨j, hj, e⟩ := List.getElem_of_mem ((mem_end hM).2 ⟨t, rfl, ht, rfl, rfl⟩)
  have e' : (onL E (vEn E t : Int) (dEn E t : Int)).getD j 0 = (t : Int) := by rw [List.getD_eq_getElem?_getD, List.getElem?_eq_getElem hj, e]; rfl
  refine ⟨j, hj, e', ?_⟩
  have := en_box hM hb h2 hj e' B.length h1
  unfold cEn; omega
theorem cntV_up (B : List Bool) (E : List Edg) (v : Nat) : ∀ m, cntV B E v ≤ cntV B E (v + m)
  | 0 => Nat.le_refl _
  | m + 1 => by have := cntV_up B E v m; rw [← Nat.add_assoc, cntV]; omega
theorem sidesK_up (E : List Edg) (v : Int) (d : Nat) : ∀ m, sidesK E v d ≤ sidesK E v (d + m)
  | 0 => Nat.le_refl _
  | m + 1 => by have := sidesK_up E v d m; rw [← Nat.add_assoc, sidesK]; omega
theorem cnt_in {B : List Bool} {E : List Edg} {v u a : Nat} (h1 : cntV B E v ≤ a) (h2 : a < cntV B E (v + 1)) (h3 : cntV B E u ≤ a) (h4 : a < cntV B E (u + 1)) : v = u := by
  rcases Nat.lt_trichotomy v u with c | c | c
  · have := cntV_up B E (v + 1) (u - (v + 1)); rw [show v + 1 + (u - (v + 1)) = u by omega] at this; omega
  · exact c
  · have := cntV_up B E (u + 1) (v - (u + 1)); rw [show u + 1 + (v - (u + 1)) = v by omega] at this; omega
theorem sides_in {E : List Edg} {v : Int} {d e a : Nat} (h1 : sidesK E v d ≤ a) (h2 : a < sidesK E v (d + 1)) (h3 : sidesK E v e ≤ a) (h4 : a < sidesK E v (e + 1)) : d = e := by
  rcases Nat.lt_trichotomy d e with c | c | c
  · have := sidesK_up E v (d + 1) (e - (d + 1)); rw [show d + 1 + (e - (d + 1)) = e by omega] at this; omega
  · exact c
  · have := sidesK_up E v (e + 1) (d - (e + 1)); rw [show e + 1 + (d - (e + 1)) = d by omega] at this; omega
theorem sides_lt {E : List Edg} {v : Int} {d j : Nat} (hd : d < 4) (hj : j < (onL E v (d : Int)).length) : sidesK E v d + j < sidesK E v (d + 1) ∧ sidesK E v (d + 1) ≤ sidesK E v 4 := by
  have := sidesK_up E v (d + 1) (4 - (d + 1)); rw [show d + 1 + (4 - (d + 1)) = 4 by omega] at this
  refine ⟨?_, this⟩
  rw [sidesK]; omega
/-- A vertex's cells: its end's among them. -/
theorem cEn_rg {B : List Bool} {E : List Edg} (hM : May B E) {t : Nat} (ht : t < 2 * E.length) : cntV B E (vEn E t) ≤ cEn B E t ∧ cEn B E t < cntV B E (vEn E t + 1) ∧ cEn B E t < cntV B E B.length := by
  obtain ⟨h1, h2⟩ := en_rg hM ht
  have hm := cntV_up B E (vEn E t + 1) (B.length - (vEn E t + 1))
  rw [show vEn E t + 1 + (B.length - (vEn E t + 1)) = B.length by omega] at hm
  have h3 : cntV B E (vEn E t + 1) = cntV B E (vEn E t) + vtxC B E (vEn E t) := rfl
  by_cases hb : B.getD (vEn E t) false = true
  · obtain ⟨j, hj, _, hc⟩ := cEn_box hM ht hb
    have := sides_lt h2 hj
    unfold vtxC at h3
    rw [if_pos hb] at h3
    omega
  · have hb' : B.getD (vEn E t) false = false := by simpa using hb
    have := cEn_point hM ht hb'
    unfold vtxC at h3
    rw [if_neg hb] at h3
    omega
/-- An end is told by its cell and its side. -/
theorem cEn_inj {B : List Bool} {E : List Edg} (hM : May B E) (hT : ¬ TwoOn B E) {t u : Nat} (ht : t < 2 * E.length) (hu : u < 2 * E.length) (hc : cEn B E t = cEn B E u) (hd : dEn E t = dEn E u) : t = u := by
  obtain ⟨a1, a2, a3⟩ := cEn_rg hM ht
  obtain ⟨b1, b2, b3⟩ := cEn_rg hM hu
  obtain ⟨h1, h2⟩ := en_rg hM ht
  have hv : vEn E t = vEn E u := cnt_in a1 a2 (by omega) (by omega)
  by_cases hb : B.getD (vEn E t) false = true
  · obtain ⟨j, hj, ej, cj⟩ := cEn_box hM ht hb
    obtain ⟨k, hk, ek, ck⟩ := cEn_box hM hu (by rw [← hv]; exact hb)
    rw [← hv, ← hd] at ek ck
    have : j = k := by omega
    subst this
    rw [ej] at ek
    omega
  · have hb' : B.getD (vEn E t) false = false := by simpa using hb
    have m1 : (t : Int) ∈ onL E (vEn E t : Int) (dEn E t : Int) := (mem_end hM).2 ⟨t, rfl, ht, rfl, rfl⟩
    have m2 : (u : Int) ∈ onL E (vEn E t : Int) (dEn E t : Int) := (mem_end hM).2 ⟨u, rfl, hu, hv.symm, hd.symm⟩
    obtain ⟨i, hi, ei⟩ := List.getElem_of_mem m1
    obtain ⟨j, hj, ej⟩ := List.getElem_of_mem m2
    have hl : (onL E (vEn E t : Int) (dEn E t : Int)).length ≤ 1 := Nat.le_of_not_lt fun h => hT ⟨vEn E t, dEn E t, h1, h2, hb', h⟩
    have : i = j := by omega
    subst this
    rw [ei] at ej
    omega
/-- An edge's two ends stand at one cell only if it goes from a point to itself. -/
theorem cEn_two {B : List Bool} {E : List Edg} (hM : May B E) {i : Nat} (hi : i < E.length) (hc : cEn B E (2 * i) = cEn B E (2 * i + 1)) : (E.getD i noE).1 = (E.getD i noE).2.1 ∧ B.getD (E.getD i noE).1.toNat false = false := by
  have ht : 2 * i < 2 * E.length := by omega
  have hu : 2 * i + 1 < 2 * E.length := by omega
  obtain ⟨h1, h2, h3, h4, h5, h6, h7⟩ := hM.ok _ (mem_getD hi)
  obtain ⟨a1, a2, a3⟩ := cEn_rg hM ht
  obtain ⟨b1, b2, b3⟩ := cEn_rg hM hu
  have hv : vEn E (2 * i) = vEn E (2 * i + 1) := cnt_in a1 a2 (by omega) (by omega)
  have e1 : vEn E (2 * i) = (E.getD i noE).1.toNat := by unfold vEn; rw [if_pos (by omega), show 2 * i / 2 = i by omega]
  have e2 : vEn E (2 * i + 1) = (E.getD i noE).2.1.toNat := by unfold vEn; rw [if_neg (by omega), show (2 * i + 1) / 2 = i by omega]
  refine ⟨by omega, ?_⟩
  by_cases hb : B.getD (vEn E (2 * i)) false = true
  · exfalso
    obtain ⟨r1, r2⟩ := en_rg hM ht
    obtain ⟨r3, r4⟩ := en_rg hM hu
    obtain ⟨j, hj, ej, cj⟩ := cEn_box hM ht hb
    obtain ⟨k, hk, ek, ck⟩ := cEn_box hM hu (by rw [← hv]; exact hb)
    rw [← hv] at ek ck hk
    have s1 := sides_lt r2 hj
    have s2 := sides_lt r4 hk
    have hdd : dEn E (2 * i) = dEn E (2 * i + 1) := sides_in (E := E) (v := (vEn E (2 * i) : Int)) (a := sidesK E (vEn E (2 * i) : Int) (dEn E (2 * i)) + j) (by omega) (by omega) (by omega) (by omega)
    rw [← hdd] at ek ck
    have : j = k := by omega
    subst this
    rw [ej] at ek
    omega
  · rw [← e1]; simpa using hb
end Go.Proofs.YtecifgaekefkpaaDoor

namespace Go.Proofs.YtecifgaekefkpaaDoor
open Go.Proofs.YtecifgaekefkpaaDoor.LexM Go.Proofs.YtecifgaekefkpaaDoor.ParM Go.Proofs.YtecifgaekefkpaaDoor.GrM Go.Proofs.YtecifgaekefkpaaDoor.NmM

/-! Lists of lists. -/
theorem rec_flat {α : Type} {f g : Nat → List α} (h0 : g 0 = []) (hs : ∀ k, g (k + 1) = g k ++ f k) : ∀ n, g n = (List.range n).flatMap f
  | 0 => h0
  | n + 1 => by rw [hs, rec_flat h0 hs n, List.range_succ, List.flatMap_append]; simp
theorem sig_mem {α β : Type} {V : List α} {f : α → List β} {v : α} {k : β} : (v, k) ∈ (V.flatMap fun v => (f v).map (Prod.mk v)) ↔ v ∈ V ∧ k ∈ f v := by
  rw [List.mem_flatMap]
  constructor
  · rintro ⟨u, hu, h⟩
    obtain ⟨j, hj, e⟩ := List.mem_map.1 h
    simp only [Prod.mk.injEq] at e
    obtain ⟨rfl, rfl⟩ := e
    exact ⟨hu, hj⟩
  · rintro ⟨hv, hk⟩
    exact ⟨v, hv, List.mem_map.2 ⟨k, hk, rfl⟩⟩
theorem sig_nodup {α β : Type} {V : List α} {f : α → List β} (hV : V.Nodup) (hf : ∀ v, (f v).Nodup) : (V.flatMap fun v => (f v).map (Prod.mk v)).Nodup := by
  rw [List.nodup_iff_pairwise_ne, List.pairwise_flatMap]
  refine ⟨fun v _ => ?_, ?_⟩
  · rw [List.pairwise_map]
    exact (List.nodup_iff_pairwise_ne.1 (hf v)).imp fun h e => h (by simpa using e)
  · refine (List.nodup_iff_pairwise_ne.1 hV).imp fun {a b} h => ?_
    intro x hx y hy e
    obtain ⟨_, _, rfl⟩ := List.mem_map.1 hx
    obtain ⟨_, _, rfl⟩ := List.mem_map.1 hy
    simp only [Prod.mk.injEq] at e
    exact h e.1
theorem sig_map {α β γ : Type} (V : List α) (f : α → List β) (g : α → β → γ) : (V.flatMap fun v => (f v).map (g v)) = (V.flatMap fun v => (f v).map (Prod.mk v)).map fun p => g p.1 p.2 := by
  induction V with
  | nil => rfl
  | cons v V ih => rw [List.flatMap_cons, List.flatMap_cons, List.map_append, ih, List.map_map]; rfl
theorem two_nodup {ι S : Type} {I : List ι} {s1 s2 : ι → S} (hI : I.Nodup) (h1 : ∀ x ∈ I, ∀ y ∈ I, s1 x = s1 y → x = y) (h2 : ∀ x ∈ I, ∀ y ∈ I, s2 x = s2 y → x = y) (h12 : ∀ x ∈ I, ∀ y ∈ I, s1 x ≠ s2 y) : (I.flatMap fun x => [s1 x, s2 x]).Nodup := by
  rw [List.nodup_iff_pairwise_ne, List.pairwise_flatMap]
  refine ⟨fun x hx => by simpa using h12 x hx x hx, ?_⟩
  refine (List.nodup_iff_pairwise_ne.1 hI).imp_of_mem fun {x y} hx hy hne => ?_
  intro a ha b hb e
  simp only [List.mem_cons, List.not_mem_nil, or_false] at ha hb
  rcases ha with rfl | rfl <;> rcases hb with rfl | rfl
  · exact hne (h1 x hx y hy e)
  · exact h12 x hx y hy e
  · exact h12 y hy x hx e.symm
  · exact hne (h2 x hx y hy e)

/-! Boxes. -/
def wyN (d : Nat) : Nat := if d = 0 then 1 else if d = 1 then 0 else if d = 2 then 1 else 0
theorem wyC_n (d : Nat) : wyC d = ((wyN d : Nat) : Int) := by unfold wyC wyN; split; rfl; split; rfl; split <;> rfl
theorem wyN_lt (d : Nat) : wyN d < 2 := by unfold wyN; split; omega; split; omega; split <;> omega
/-- How many ends a side has. -/
def lnB (E : List Edg) (v d : Nat) : Nat := (onL E (v : Int) (d : Int)).length
/-- From which cell, to which. -/
def xB (B : List Bool) (E : List Edg) (v d k : Nat) : Nat := if k = 0 then cntV B E v + frN d else cntV B E v + 4 + sidesK E (v : Int) d + (k - 1)
def yB (B : List Bool) (E : List Edg) (v d k : Nat) : Nat := if k = lnB E v d then cntV B E v + toN d else cntV B E v + 4 + sidesK E (v : Int) d + k
def jB (B : List Bool) (E : List Edg) (p : Nat × (Nat × Nat)) : Jn := ((xB B E p.1 p.2.1 p.2.2 : Nat), (wyN p.2.1 : Nat), (yB B E p.1 p.2.1 p.2.2 : Nat), -1)
def IB (B : List Bool) (E : List Edg) : List (Nat × (Nat × Nat)) := (boxK B B.length).flatMap fun v => ((List.range 4).flatMap fun d => (List.range (lnB E v d + 1)).map (Prod.mk d)).map (Prod.mk v)
theorem box_mem {B : List Bool} {v : Nat} : v ∈ boxK B B.length ↔ v < B.length ∧ B.getD v false = true := by unfold boxK; rw [List.mem_filter, List.mem_range]
theorem IB_mem {B : List Bool} {E : List Edg} {v d k : Nat} : (v, (d, k)) ∈ IB B E ↔ v < B.length ∧ B.getD v false = true ∧ d < 4 ∧ k ≤ lnB E v d := by
  unfold IB
  rw [sig_mem, sig_mem, box_mem, List.mem_range, List.mem_range, and_assoc, Nat.lt_succ_iff (n := lnB E v d)]
theorem jB_at (B : List Bool) (E : List Edg) (v d k : Nat) : jB B E (v, (d, k)) = (((xB B E v d k : Nat) : Int), ((wyN d : Nat) : Int), ((yB B E v d k : Nat) : Int), -1) := rfl
theorem IB_nodup (B : List Bool) (E : List Edg) : (IB B E).Nodup := by
  unfold IB
  refine sig_nodup ?_ fun v => sig_nodup List.nodup_range fun d => List.nodup_range
  unfold boxK
  exact List.nodup_iff_pairwise_ne.2 (List.Pairwise.filter _ (List.nodup_iff_pairwise_ne.1 List.nodup_range))
theorem chJ_map (way fr : Int) (l : List Int) : ∀ n, chJ way fr l n = (List.range n).map fun k => (chA fr l k, way, l.getD k 0, -1)
  | 0 => rfl
  | n + 1 => by rw [chJ, chJ_map way fr l n, List.range_succ, List.map_append]; rfl
theorem sdJ_map (B : List Bool) (E : List Edg) (v d : Nat) (hd : d < 4) : sdJ (wyC d) (frC (cntV B E v) d) (toC (cntV B E v) d) (sdC E v (cntV B E v) d) = (List.range (lnB E v d + 1)).map fun k => jB B E (v, (d, k)) := by
  have hl : (sdC E v (cntV B E v) d).length = lnB E v d := celR_len _ _
  have hA : ∀ k, k ≤ lnB E v d → chA (frC (cntV B E v) d) (sdC E v (cntV B E v) d) k = ((xB B E v d k : Nat) : Int) := fun k hk => by
    cases k with
    | zero => unfold xB; rw [if_pos rfl]; exact frC_n _ _
    | succ k =>
      unfold xB
      rw [if_neg (by omega)]
      show (sdC E v (cntV B E v) d).getD k 0 = _
      unfold sdC
      rw [celR_getD (by unfold lnB at hk; omega)]; rfl
  unfold sdJ
  rw [chJ_map, hl, List.range_succ, List.map_append]
  congr 1
  · refine List.map_congr_left fun k hk => ?_
    rw [List.mem_range] at hk
    rw [jB_at, hA k (by omega), wyC_n]
    unfold yB
    rw [if_neg (by omega)]
    unfold sdC
    rw [celR_getD (by unfold lnB at hk; omega)]
  · show [_] = [_]
    rw [hA _ (Nat.le_refl _), wyC_n, toC_n _ _ hd]
    show _ = [jB B E (v, (d, lnB E v d))]
    rw [jB_at]
    unfold yB
    rw [if_pos rfl]
theorem bsJ_map (B : List Bool) (E : List Edg) : bsJ E (cntV B E) (boxK B B.length) = (IB B E).map (jB B E) := by
  unfold bsJ IB
  have h : ∀ v, bxJ (cntV B E v) (fun d => sdC E v (cntV B E v) d) 4 = ((List.range 4).flatMap fun d => (List.range (lnB E v d + 1)).map (Prod.mk d)).map fun p => jB B E (v, p) := fun v => by
    rw [rec_flat (g := bxJ (cntV B E v) (fun d => sdC E v (cntV B E v) d)) (f := fun d => sdJ (wyC d) (frC (cntV B E v) d) (toC (cntV B E v) d) (sdC E v (cntV B E v) d)) rfl (fun _ => rfl) 4]
    rw [← sig_map (List.range 4) (fun d => List.range (lnB E v d + 1)) (fun d k => jB B E (v, (d, k)))]
    simp only [List.flatMap]
    congr 1
    exact List.map_congr_left fun d hd => sdJ_map B E v d (List.mem_range.1 hd)
  simp only [h]
  rw [← sig_map (boxK B B.length) _ (fun v p => jB B E (v, p))]
/-! Edges. -/
/-- Which way an edge goes behind so many bends. -/
def drE (E : List Edg) (i k : Nat) : Nat := (lastT (E.getD i noE).2.2.1 ((E.getD i noE).2.2.2.take k)).toNat
theorem drE_int (E : List Edg) (i k : Nat) : lastT (E.getD i noE).2.2.1 ((E.getD i noE).2.2.2.take k) = ((drE E i k : Nat) : Int) ∧ drE E i k < 4 := by
  unfold drE lastT
  omega
noncomputable def xE (B : List Bool) (E : List Edg) (i k : Nat) : Nat := if k = 0 then cEn B E (2 * i) else cntV B E B.length + bndK E i + (k - 1)
noncomputable def yE (B : List Bool) (E : List Edg) (i k : Nat) : Nat := if k = nbE E i then cEn B E (2 * i + 1) else cntV B E B.length + bndK E i + k
noncomputable def jE (B : List Bool) (E : List Edg) (p : Nat × Nat) : Jn := ((xE B E p.1 p.2 : Nat), (drE E p.1 p.2 : Nat), (yE B E p.1 p.2 : Nat), (p.1 : Int))
def IE (E : List Edg) : List (Nat × Nat) := (List.range E.length).flatMap fun i => (List.range (nbE E i + 1)).map (Prod.mk i)
theorem IE_mem {E : List Edg} {i k : Nat} : (i, k) ∈ IE E ↔ i < E.length ∧ k ≤ nbE E i := by
  unfold IE
  rw [sig_mem, List.mem_range, List.mem_range]
  omega
theorem IE_nodup (E : List Edg) : (IE E).Nodup := sig_nodup List.nodup_range fun _ => List.nodup_range
theorem way_x (B : List Bool) {E : List Edg} {i k : Nat} (hi : i < E.length) (hk : k ≤ nbE E i) : (wayS B E i).getD k 0 = ((xE B E i k : Nat) : Int) := by
  obtain ⟨w0, w1, w2⟩ := wayF_at (en := (vxK B E B.length).1.en) (nb := nbE E i) (n := cntV B E B.length + bndK E i) (i := i)
  rw [wayS_eq B E hi]
  unfold xE
  cases k with
  | zero => rw [if_pos rfl, w0, cEn_int]
  | succ k => rw [if_neg (by omega), w1 k (by omega)]; rfl
theorem way_y (B : List Bool) {E : List Edg} {i k : Nat} (hi : i < E.length) (hk : k ≤ nbE E i) : (wayS B E i).getD (k + 1) 0 = ((yE B E i k : Nat) : Int) := by
  obtain ⟨w0, w1, w2⟩ := wayF_at (en := (vxK B E B.length).1.en) (nb := nbE E i) (n := cntV B E B.length + bndK E i) (i := i)
  rw [wayS_eq B E hi]
  unfold yE
  by_cases h : k = nbE E i
  · rw [if_pos h, h, w2, cEn_int]
  · rw [if_neg h, w1 k (by omega)]
theorem egJ_map (W : List Int) (d0 : Int) (bl : List UInt8) (o : Int) : ∀ n, egJ W d0 bl o n = (List.range n).map fun k => (W.getD k 0, lastT d0 (bl.take k), W.getD (k + 1) 0, o)
  | 0 => rfl
  | n + 1 => by rw [egJ, egJ_map W d0 bl o n, List.range_succ, List.map_append]; rfl
theorem esJ_map (B : List Bool) (E : List Edg) : esJ E (wayS B E) E.length = (IE E).map (jE B E) := by
  rw [rec_flat (g := esJ E (wayS B E)) (f := fun i => egJ (wayS B E i) (E.getD i noE).2.2.1 (E.getD i noE).2.2.2 i (nbE E i + 1)) rfl (fun _ => rfl) E.length]
  unfold IE
  rw [← sig_map (List.range E.length) _ (fun i k => jE B E (i, k))]
  simp only [List.flatMap]
  congr 1
  refine List.map_congr_left fun i hi => ?_
  rw [List.mem_range] at hi
  rw [egJ_map]
  refine List.map_congr_left fun k hk => ?_
  rw [List.mem_range] at hk
  unfold jE
  rw [way_x B hi (by omega), way_y B hi (by omega), (drE_int E i k).1]
/-! All joins: the sides of each. -/
def sB1 (B : List Bool) (E : List Edg) (p : Nat × (Nat × Nat)) : Nat × Nat := (xB B E p.1 p.2.1 p.2.2, wyN p.2.1)
def sB2 (B : List Bool) (E : List Edg) (p : Nat × (Nat × Nat)) : Nat × Nat := (yB B E p.1 p.2.1 p.2.2, opp (wyN p.2.1))
noncomputable def sE1 (B : List Bool) (E : List Edg) (p : Nat × Nat) : Nat × Nat := (xE B E p.1 p.2, drE E p.1 p.2)
noncomputable def sE2 (B : List Bool) (E : List Edg) (p : Nat × Nat) : Nat × Nat := (yE B E p.1 p.2, opp (drE E p.1 p.2))
def SB (B : List Bool) (E : List Edg) : List (Nat × Nat) := (IB B E).flatMap fun p => [sB1 B E p, sB2 B E p]
noncomputable def SE (B : List Bool) (E : List Edg) : List (Nat × Nat) := (IE E).flatMap fun p => [sE1 B E p, sE2 B E p]
noncomputable def allJ (B : List Bool) (E : List Edg) : List Jn := bsJ E (cntV B E) (boxK B B.length) ++ esJ E (wayS B E) E.length
theorem sides_all (B : List Bool) (E : List Edg) : (allJ B E).flatMap prJ = SB B E ++ SE B E := by
  unfold allJ SB SE
  rw [List.flatMap_append, bsJ_map, esJ_map, List.flatMap_map, List.flatMap_map]
  rfl
/-- In a box: where a side's cells lie. -/
theorem xB_rg {B : List Bool} {E : List Edg} {v d k : Nat} (hb : B.getD v false = true) (hd : d < 4) (hk : k ≤ lnB E v d) : cntV B E v ≤ xB B E v d k ∧ xB B E v d k < cntV B E (v + 1) ∧ (k = 0 → xB B E v d k < cntV B E v + 4) ∧ (0 < k → xB B E v d k = cntV B E v + 4 + (sidesK E (v : Int) d + (k - 1)) ∧ sidesK E (v : Int) d + (k - 1) < sidesK E (v : Int) (d + 1)) := by
  have h3 : cntV B E (v + 1) = cntV B E v + (4 + sidesK E (v : Int) 4) := by show cntV B E v + vtxC B E v = _; unfold vtxC; rw [if_pos hb]
  have hf := frN_lt d
  by_cases h0 : k = 0
  · unfold xB; rw [if_pos h0]; omega
  · have hs := sides_lt (E := E) (v := (v : Int)) hd (j := k - 1) (by unfold lnB at hk; omega)
    unfold xB; rw [if_neg h0]; omega
theorem yB_rg {B : List Bool} {E : List Edg} {v d k : Nat} (hb : B.getD v false = true) (hd : d < 4) (hk : k ≤ lnB E v d) : cntV B E v ≤ yB B E v d k ∧ yB B E v d k < cntV B E (v + 1) ∧ (k = lnB E v d → yB B E v d k < cntV B E v + 4) ∧ (k < lnB E v d → yB B E v d k = cntV B E v + 4 + (sidesK E (v : Int) d + k) ∧ sidesK E (v : Int) d + k < sidesK E (v : Int) (d + 1)) := by
  have h3 : cntV B E (v + 1) = cntV B E v + (4 + sidesK E (v : Int) 4) := by show cntV B E v + vtxC B E v = _; unfold vtxC; rw [if_pos hb]
  have hf := toN_lt d
  by_cases h0 : k = lnB E v d
  · unfold yB; rw [if_pos h0]; omega
  · have hs := sides_lt (E := E) (v := (v : Int)) hd (j := k) (by unfold lnB at hk h0; omega)
    unfold yB; rw [if_neg h0]; omega
theorem sB1_inj {B : List Bool} {E : List Edg} {v d k u e j : Nat} (hb : B.getD v false = true) (hd : d < 4) (hk : k ≤ lnB E v d) (cb : B.getD u false = true) (he : e < 4) (hj : j ≤ lnB E u e) (h : sB1 B E (v, (d, k)) = sB1 B E (u, (e, j))) : (v, (d, k)) = (u, (e, j)) := by
  unfold sB1 at h
  simp only [Prod.mk.injEq] at h
  obtain ⟨h1, h2⟩ := h
  obtain ⟨a1, a2, a3, a4⟩ := xB_rg hb hd hk
  obtain ⟨b1, b2, b3, b4⟩ := xB_rg cb he hj
  have hv : v = u := cnt_in a1 a2 (by omega) (by omega)
  subst hv
  by_cases k0 : k = 0
  · by_cases j0 : j = 0
    · subst k0 j0
      unfold xB at h1
      rw [if_pos rfl, if_pos rfl] at h1
      have : d = e := by
        unfold frN at h1
        unfold wyN at h2
        have hc : d = 0 ∨ d = 1 ∨ d = 2 ∨ d = 3 := by omega
        have hc2 : e = 0 ∨ e = 1 ∨ e = 2 ∨ e = 3 := by omega
        rcases hc with rfl | rfl | rfl | rfl <;> rcases hc2 with rfl | rfl | rfl | rfl <;> simp at h1 h2 <;> rfl
      subst this; rfl
    · have := a3 k0; have := b4 (by omega); omega
  · by_cases j0 : j = 0
    · have := b3 j0; have := a4 (by omega); omega
    · have q1 := a4 (by omega)
      have q2 := b4 (by omega)
      have : d = e := sides_in (E := E) (v := (v : Int)) (a := sidesK E (v : Int) d + (k - 1)) (by omega) (by omega) (by omega) (by omega)
      subst this
      have : k = j := by omega
      subst this; rfl
theorem sB2_inj {B : List Bool} {E : List Edg} {v d k u e j : Nat} (hb : B.getD v false = true) (hd : d < 4) (hk : k ≤ lnB E v d) (cb : B.getD u false = true) (he : e < 4) (hj : j ≤ lnB E u e) (h : sB2 B E (v, (d, k)) = sB2 B E (u, (e, j))) : (v, (d, k)) = (u, (e, j)) := by
  unfold sB2 at h
  simp only [Prod.mk.injEq] at h
  obtain ⟨h1, h2⟩ := h
  obtain ⟨a1, a2, a3, a4⟩ := yB_rg hb hd hk
  obtain ⟨b1, b2, b3, b4⟩ := yB_rg cb he hj
  have hv : v = u := cnt_in a1 a2 (by omega) (by omega)
  subst hv
  by_cases k0 : k = lnB E v d
  · by_cases j0 : j = lnB E v e
    · unfold yB at h1
      rw [if_pos k0, if_pos j0] at h1
      have : d = e := by
        unfold toN at h1
        unfold wyN opp at h2
        clear a1 a2 a3 a4 b1 b2 b3 b4 hk hj k0 j0
        have hc : d = 0 ∨ d = 1 ∨ d = 2 ∨ d = 3 := by omega
        have hc2 : e = 0 ∨ e = 1 ∨ e = 2 ∨ e = 3 := by omega
        rcases hc with rfl | rfl | rfl | rfl <;> rcases hc2 with rfl | rfl | rfl | rfl <;> simp at h1 h2 <;> rfl
      subst this
      rw [k0, j0]
    · have := a3 k0; have := b4 (by omega); omega
  · by_cases j0 : j = lnB E v e
    · have := b3 j0; have := a4 (by omega); omega
    · have q1 := a4 (by omega)
      have q2 := b4 (by omega)
      have : d = e := sides_in (E := E) (v := (v : Int)) (a := sidesK E (v : Int) d + k) (by omega) (by omega) (by omega) (by omega)
      subst this
      have : k = j := by omega
      subst this; rfl
theorem SB_nodup (B : List Bool) (E : List Edg) : (SB B E).Nodup := by
  refine two_nodup (IB_nodup B E) ?_ ?_ ?_
  · rintro ⟨v, d, k⟩ hx ⟨u, e, j⟩ hy h
    obtain ⟨_, a2, a3, a4⟩ := IB_mem.1 hx
    obtain ⟨_, b2, b3, b4⟩ := IB_mem.1 hy
    exact sB1_inj a2 a3 a4 b2 b3 b4 h
  · rintro ⟨v, d, k⟩ hx ⟨u, e, j⟩ hy h
    obtain ⟨_, a2, a3, a4⟩ := IB_mem.1 hx
    obtain ⟨_, b2, b3, b4⟩ := IB_mem.1 hy
    exact sB2_inj a2 a3 a4 b2 b3 b4 h
  · rintro ⟨v, d, k⟩ hx ⟨u, e, j⟩ hy h
    unfold sB1 sB2 at h
    simp only [Prod.mk.injEq] at h
    have w1 := wyN_lt d
    have w2 := wyN_lt e
    have := h.2
    unfold opp at this
    omega
/-! Edges: a turn is no turning back. -/
theorem drE_zero {B : List Bool} {E : List Edg} (hM : May B E) {i : Nat} (hi : i < E.length) : drE E i 0 = dEn E (2 * i) := by
  obtain ⟨h1, h2, h3, h4, h5, h6, h7⟩ := hM.ok _ (mem_getD hi)
  unfold drE dEn
  rw [if_pos (by omega), show 2 * i / 2 = i by omega, List.take_zero, lastT_nil h5 h6]
theorem drE_last {E : List Edg} {i : Nat} : opp (drE E i (nbE E i)) = dEn E (2 * i + 1) := by
  unfold drE dEn opp sideT nbE
  rw [if_neg (by omega), show (2 * i + 1) / 2 = i by omega, List.take_length]
  unfold lastT
  omega
theorem drE_turn {E : List Edg} {i k : Nat} (hk : k < nbE E i) : drE E i (k + 1) ≠ opp (drE E i k) := by
  have e1 := (drE_int E i k).1
  have e2 := (drE_int E i (k + 1)).1
  have hk' : k < (E.getD i noE).2.2.2.length := hk
  have hg : (E.getD i noE).2.2.2.take (k + 1) = (E.getD i noE).2.2.2.take k ++ [(E.getD i noE).2.2.2[k]] := List.take_succ_eq_append_getElem hk'
  rw [hg, last_snoc, e1] at e2
  have ha : addT (E.getD i noE).2.2.2[k] = 1 ∨ addT (E.getD i noE).2.2.2[k] = 3 := by
    unfold addT; split <;> simp
  have h4 := (drE_int E i k).2
  unfold opp
  omega
theorem bnd_in {E : List Edg} {i j a : Nat} (h1 : bndK E i ≤ a) (h2 : a < bndK E (i + 1)) (h3 : bndK E j ≤ a) (h4 : a < bndK E (j + 1)) : i = j := by
  have mono : ∀ i m, bndK E i ≤ bndK E (i + m) := fun i m => by
    induction m with
    | zero => exact Nat.le_refl _
    | succ m ih => rw [← Nat.add_assoc, bndK]; omega
  rcases Nat.lt_trichotomy i j with c | c | c
  · have := mono (i + 1) (j - (i + 1)); rw [show i + 1 + (j - (i + 1)) = j by omega] at this; omega
  · exact c
  · have := mono (j + 1) (i - (j + 1)); rw [show j + 1 + (i - (j + 1)) = i by omega] at this; omega
theorem xE_rg {B : List Bool} {E : List Edg} (hM : May B E) {i k : Nat} (hi : i < E.length) (hk : k ≤ nbE E i) : (k = 0 → xE B E i k = cEn B E (2 * i) ∧ xE B E i k < cntV B E B.length) ∧ (0 < k → xE B E i k = cntV B E B.length + (bndK E i + (k - 1)) ∧ bndK E i + (k - 1) < bndK E (i + 1)) := by
  have := (cEn_rg hM (show 2 * i < 2 * E.length by omega)).2.2
  have hb : bndK E (i + 1) = bndK E i + nbE E i := rfl
  unfold xE
  refine ⟨fun h => by rw [if_pos h]; omega, fun h => by rw [if_neg (by omega)]; omega⟩
theorem yE_rg {B : List Bool} {E : List Edg} (hM : May B E) {i k : Nat} (hi : i < E.length) : (k = nbE E i → yE B E i k = cEn B E (2 * i + 1) ∧ yE B E i k < cntV B E B.length) ∧ (k < nbE E i → yE B E i k = cntV B E B.length + (bndK E i + k) ∧ bndK E i + k < bndK E (i + 1)) := by
  have := (cEn_rg hM (show 2 * i + 1 < 2 * E.length by omega)).2.2
  have hb : bndK E (i + 1) = bndK E i + nbE E i := rfl
  unfold yE
  refine ⟨fun h => by rw [if_pos h]; omega, fun h => by rw [if_neg (by omega)]; omega⟩
theorem SE_nodup {B : List Bool} {E : List Edg} (hM : May B E) (hT : ¬ TwoOn B E) : (SE B E).Nodup := by
  refine two_nodup (IE_nodup E) ?_ ?_ ?_
  · rintro ⟨i, k⟩ hx ⟨j, q⟩ hy h
    obtain ⟨hi, hk⟩ := IE_mem.1 hx
    obtain ⟨hj, hq⟩ := IE_mem.1 hy
    unfold sE1 at h
    simp only [Prod.mk.injEq] at h
    obtain ⟨h1, h2⟩ := h
    obtain ⟨a1, a2⟩ := xE_rg hM hi hk
    obtain ⟨b1, b2⟩ := xE_rg hM hj hq
    by_cases k0 : k = 0
    · by_cases q0 : q = 0
      · have c1 := a1 k0; have c2 := b1 q0
        subst k0 q0
        rw [drE_zero hM hi, drE_zero hM hj] at h2
        have := cEn_inj hM hT (show 2 * i < 2 * E.length by omega) (show 2 * j < 2 * E.length by omega) (by omega) h2
        have : i = j := by omega
        subst this; rfl
      · have := a1 k0; have := b2 (by omega); omega
    · by_cases q0 : q = 0
      · have := b1 q0; have := a2 (by omega); omega
      · have c1 := a2 (by omega); have c2 := b2 (by omega)
        have : i = j := bnd_in (E := E) (a := bndK E i + (k - 1)) (by omega) (by omega) (by omega) (by omega)
        subst this
        have : k = q := by omega
        subst this; rfl
  · rintro ⟨i, k⟩ hx ⟨j, q⟩ hy h
    obtain ⟨hi, hk⟩ := IE_mem.1 hx
    obtain ⟨hj, hq⟩ := IE_mem.1 hy
    unfold sE2 at h
    simp only [Prod.mk.injEq] at h
    obtain ⟨h1, h2⟩ := h
    obtain ⟨a1, a2⟩ := yE_rg hM hi
    obtain ⟨b1, b2⟩ := yE_rg hM hj
    by_cases k0 : k = nbE E i
    · by_cases q0 : q = nbE E j
      · have c1 := a1 k0; have c2 := b1 q0
        rw [k0, q0, drE_last, drE_last] at h2
        have := cEn_inj hM hT (show 2 * i + 1 < 2 * E.length by omega) (show 2 * j + 1 < 2 * E.length by omega) (by omega) h2
        have : i = j := by omega
        subst this
        rw [k0, q0]
      · have := a1 k0; have := b2 (by omega); omega
    · by_cases q0 : q = nbE E j
      · have := b1 q0; have := a2 (by omega); omega
      · have c1 := a2 (by omega); have c2 := b2 (by omega)
        have : i = j := bnd_in (E := E) (a := bndK E i + k) (by omega) (by omega) (by omega) (by omega)
        subst this
        have : k = q := by omega
        subst this; rfl
  · rintro ⟨i, k⟩ hx ⟨j, q⟩ hy h
    obtain ⟨hi, hk⟩ := IE_mem.1 hx
    obtain ⟨hj, hq⟩ := IE_mem.1 hy
    unfold sE1 sE2 at h
    simp only [Prod.mk.injEq] at h
    obtain ⟨h1, h2⟩ := h
    obtain ⟨a1, a2⟩ := xE_rg hM hi hk
    obtain ⟨b1, b2⟩ := yE_rg hM hj
    by_cases k0 : k = 0
    · by_cases q0 : q = nbE E j
      · have c1 := a1 k0; have c2 := b1 q0
        subst k0
        rw [q0, drE_zero hM hi, drE_last] at h2
        have := cEn_inj hM hT (show 2 * i < 2 * E.length by omega) (show 2 * j + 1 < 2 * E.length by omega) (by omega) h2
        omega
      · have := a1 k0; have := b2 (by omega); omega
    · by_cases q0 : q = nbE E j
      · have := b1 q0; have := a2 (by omega); omega
      · have c1 := a2 (by omega); have c2 := b2 (by omega)
        have : i = j := bnd_in (E := E) (a := bndK E i + (k - 1)) (by omega) (by omega) (by omega) (by omega)
        subst this
        have : k = q + 1 := by omega
        subst this
        exact drE_turn (by omega) h2
/-- An edge's side: a bend's, or an end's. -/
theorem SE_case {B : List Bool} {E : List Edg} (hM : May B E) {a e : Nat} (h : (a, e) ∈ SE B E) : cntV B E B.length ≤ a ∨ ∃ t, t < 2 * E.length ∧ a = cEn B E t ∧ e = dEn E t := by
  unfold SE at h
  obtain ⟨⟨i, k⟩, hx, h⟩ := List.mem_flatMap.1 h
  obtain ⟨hi, hk⟩ := IE_mem.1 hx
  simp only [List.mem_cons, List.not_mem_nil, or_false] at h
  rcases h with h | h
  · unfold sE1 at h
    simp only [Prod.mk.injEq] at h
    obtain ⟨h1, h2⟩ := h
    obtain ⟨a1, a2⟩ := xE_rg (B := B) hM hi hk
    by_cases k0 : k = 0
    · have c := a1 k0
      refine Or.inr ⟨2 * i, by omega, by omega, ?_⟩
      rw [h2, k0, drE_zero hM hi]
    · have c := a2 (by omega); exact Or.inl (by omega)
  · unfold sE2 at h
    simp only [Prod.mk.injEq] at h
    obtain ⟨h1, h2⟩ := h
    obtain ⟨a1, a2⟩ := yE_rg (B := B) hM hi
    by_cases k0 : k = nbE E i
    · have c := a1 k0
      refine Or.inr ⟨2 * i + 1, by omega, by omega, ?_⟩
      rw [h2, k0, drE_last]
    · have c := a2 (by omega); exact Or.inl (by omega)
theorem SB_case {B : List Bool} {E : List Edg} {a e : Nat} (h : (a, e) ∈ SB B E) : ∃ v d, v < B.length ∧ B.getD v false = true ∧ d < 4 ∧ cntV B E v ≤ a ∧ a < cntV B E (v + 1) ∧ (e = wyN d ∨ e = opp (wyN d)) ∧ (a < cntV B E v + 4 ∨ ∃ j, j < lnB E v d ∧ a = cntV B E v + 4 + (sidesK E (v : Int) d + j)) := by
  unfold SB at h
  obtain ⟨⟨v, d, k⟩, hx, h⟩ := List.mem_flatMap.1 h
  obtain ⟨hv, hb, hd, hk⟩ := IB_mem.1 hx
  simp only [List.mem_cons, List.not_mem_nil, or_false] at h
  rcases h with h | h
  · unfold sB1 at h
    simp only [Prod.mk.injEq] at h
    obtain ⟨h1, h2⟩ := h
    obtain ⟨a1, a2, a3, a4⟩ := xB_rg hb hd hk
    refine ⟨v, d, hv, hb, hd, by omega, by omega, Or.inl h2, ?_⟩
    by_cases k0 : k = 0
    · have := a3 k0; exact Or.inl (by omega)
    · have := a4 (by omega); exact Or.inr ⟨k - 1, by omega, by omega⟩
  · unfold sB2 at h
    simp only [Prod.mk.injEq] at h
    obtain ⟨h1, h2⟩ := h
    obtain ⟨a1, a2, a3, a4⟩ := yB_rg hb hd hk
    refine ⟨v, d, hv, hb, hd, by omega, by omega, Or.inr h2, ?_⟩
    by_cases k0 : k = lnB E v d
    · have := a3 k0; exact Or.inl (by omega)
    · have := a4 (by omega); exact Or.inr ⟨k, by omega, by omega⟩
theorem cnt_up (B : List Bool) (E : List Edg) {v : Nat} (hv : v < B.length) : cntV B E (v + 1) ≤ cntV B E B.length := by
  have := cntV_up B E (v + 1) (B.length - (v + 1)); rw [show v + 1 + (B.length - (v + 1)) = B.length by omega] at this; exact this
theorem all_nodup {B : List Bool} {E : List Edg} (hM : May B E) (hT : ¬ TwoOn B E) : (SB B E ++ SE B E).Nodup := by
  rw [List.nodup_append]
  refine ⟨SB_nodup B E, SE_nodup hM hT, ?_⟩
  rintro ⟨a, e⟩ hx ⟨a', e'⟩ hy h
  simp only [Prod.mk.injEq] at h
  obtain ⟨rfl, rfl⟩ := h
  obtain ⟨v, d, hv, hb, hd, h1, h2, h3, h4⟩ := SB_case hx
  have hup := cnt_up B E hv
  rcases SE_case hM hy with h | ⟨t, ht, hc, he⟩
  · omega
  · obtain ⟨r1, r2, r3⟩ := cEn_rg hM ht
    have hvt : v = vEn E t := cnt_in h1 h2 (by omega) (by omega)
    subst hvt
    obtain ⟨j, hj, _, cj⟩ := cEn_box hM ht hb
    rcases h4 with h4 | ⟨i, hi, h4⟩
    · omega
    · have s1 := sides_lt (en_rg hM ht).2 hj
      have s2 := sides_lt (E := E) (v := (vEn E t : Int)) hd (j := i) hi
      have hdd : d = dEn E t := sides_in (E := E) (v := (vEn E t : Int)) (a := sidesK E (vEn E t : Int) d + i) (by omega) (by omega) (by omega) (by omega)
      rw [← hdd] at he
      subst he
      unfold opp wyN at h3
      have hc4 : e = 0 ∨ e = 1 ∨ e = 2 ∨ e = 3 := by omega
      rcases hc4 with rfl | rfl | rfl | rfl <;> simp at h3
/-- No join is refused. -/
theorem all_fine {B : List Bool} {E : List Edg} (hM : May B E) (hS : ¬ SelfT B E) : ∀ j ∈ allJ B E, ¬ badJ (cntN B E) j.1 j.2.1 j.2.2.1 j.2.2.2 := by
  intro j hj
  have hcn : cntN B E = cntV B E B.length + bndK E E.length := by unfold cntN; rw [bndK_all]
  unfold allJ at hj
  rw [bsJ_map, esJ_map, List.mem_append] at hj
  rcases hj with hj | hj
  · obtain ⟨⟨v, d, k⟩, hx, rfl⟩ := List.mem_map.1 hj
    obtain ⟨hv, hb, hd, hk⟩ := IB_mem.1 hx
    rw [jB_at]
    obtain ⟨a1, a2, a3, a4⟩ := xB_rg hb hd hk
    obtain ⟨b1, b2, b3, b4⟩ := yB_rg hb hd hk
    have hup := cnt_up B E hv
    have hw := wyN_lt d
    have hne : xB B E v d k ≠ yB B E v d k := by
      by_cases k0 : k = 0
      · by_cases kl : k = lnB E v d
        · unfold xB yB
          rw [if_pos k0, if_pos kl]
          unfold frN toN
          have hc : d = 0 ∨ d = 1 ∨ d = 2 ∨ d = 3 := by omega
          rcases hc with rfl | rfl | rfl | rfl <;> simp
        · have := a3 k0; have := b4 (by omega); omega
      · by_cases kl : k = lnB E v d
        · have := b3 kl; have := a4 (by omega); omega
        · have := b4 (by omega); have := a4 (by omega); omega
    unfold badJ
    show ¬ (((xB B E v d k : Nat) : Int) < 0 ∨ ((cntN B E : Nat) : Int) ≤ ((xB B E v d k : Nat) : Int) ∨ ((yB B E v d k : Nat) : Int) < 0 ∨ ((cntN B E : Nat) : Int) ≤ ((yB B E v d k : Nat) : Int) ∨ ((xB B E v d k : Nat) : Int) = ((yB B E v d k : Nat) : Int) ∨ ((wyN d : Nat) : Int) < 0 ∨ 3 < ((wyN d : Nat) : Int) ∨ (-1 : Int) < -2)
    omega
  · obtain ⟨⟨i, k⟩, hx, rfl⟩ := List.mem_map.1 hj
    obtain ⟨hi, hk⟩ := IE_mem.1 hx
    obtain ⟨a1, a2⟩ := xE_rg (B := B) hM hi hk
    obtain ⟨b1, b2⟩ := yE_rg (B := B) hM hi
    have hd := (drE_int E i k).2
    have hbl := bndK_le (E := E) (i := i + 1) (by omega)
    have hne : xE B E i k ≠ yE B E i k := by
      by_cases k0 : k = 0
      · by_cases kl : k = nbE E i
        · have c1 := a1 k0; have c2 := b1 kl
          intro e
          obtain ⟨e1, e2⟩ := cEn_two hM hi (by omega)
          refine hS ⟨i, hi, e1, ?_, e2⟩
          exact List.eq_nil_of_length_eq_zero (by unfold nbE at kl; omega)
        · have := a1 k0; have := b2 (by omega); omega
      · by_cases kl : k = nbE E i
        · have := b1 kl; have := a2 (by omega); omega
        · have := b2 (by omega); have := a2 (by omega); omega
    have rx : xE B E i k < cntN B E := by
      by_cases k0 : k = 0
      · have := a1 k0; omega
      · have := a2 (by omega); omega
    have ry : yE B E i k < cntN B E := by
      by_cases kl : k = nbE E i
      · have := b1 kl; omega
      · have := b2 (by omega); omega
    unfold badJ
    show ¬ (((xE B E i k : Nat) : Int) < 0 ∨ ((cntN B E : Nat) : Int) ≤ ((xE B E i k : Nat) : Int) ∨ ((yE B E i k : Nat) : Int) < 0 ∨ ((cntN B E : Nat) : Int) ≤ ((yE B E i k : Nat) : Int) ∨ ((xE B E i k : Nat) : Int) = ((yE B E i k : Nat) : Int) ∨ ((drE E i k : Nat) : Int) < 0 ∨ 3 < ((drE E i k : Nat) : Int) ∨ ((i : Nat) : Int) < -2)
    omega
end Go.Proofs.YtecifgaekefkpaaDoor

namespace Go.Proofs.YtecifgaekefkpaaDoor
open Go.Proofs.YtecifgaekefkpaaDoor.LexM Go.Proofs.YtecifgaekefkpaaDoor.ParM Go.Proofs.YtecifgaekefkpaaDoor.GrM Go.Proofs.YtecifgaekefkpaaDoor.NmM

section
variable {B : List Bool} {E : List Edg}
theorem celS_is (B : List Bool) (E : List Edg) : celS B E = jnA (cntN B E) (newG (cntN B E)) (allJ B E) := rfl
theorem celS_good (B : List Bool) (E : List Edg) : (celS B E).length = cntN B E * 8 ∧ GoodG (celS B E) (cntN B E) := by
  rw [celS_is]
  exact ⟨(jnA_len _ _ _).trans (new_len _), jnA_good _ (new_len _) (new_good _)⟩
theorem new_none (N : Nat) : ∀ a e, a < N → e < 4 → (nxG (newG N) a e ≠ -1 ↔ (a, e) ∈ ([] : List (Nat × Nat))) := fun a e ha he => by
  rw [nx_new ha he]; simp
theorem celS_nx (hM : May B E) (hT : ¬ TwoOn B E) (hS : ¬ SelfT B E) {a e : Nat} (ha : a < cntN B E) (he : e < 4) : nxG (celS B E) a e ≠ -1 ↔ (a, e) ∈ SB B E ++ SE B E := by
  have h := jnA_free (allJ B E) (P := []) (new_len _) (new_none _) (all_fine hM hS) (by rw [List.nil_append, sides_all]; exact all_nodup hM hT) a e ha he
  rw [List.nil_append, sides_all] at h
  exact h
theorem celS_ow (hM : May B E) (hT : ¬ TwoOn B E) (hS : ¬ SelfT B E) {j : Jn} (hj : j ∈ allJ B E) {a e : Nat} (h : (a, e) ∈ prJ j) : owG (celS B E) a e = j.2.2.2 :=
  jnA_own (allJ B E) (P := []) (new_len _) (new_none _) (all_fine hM hS) (by rw [List.nil_append, sides_all]; exact all_nodup hM hT) j hj a e h
theorem ow_box (hM : May B E) (hT : ¬ TwoOn B E) (hS : ¬ SelfT B E) {a e : Nat} (h : (a, e) ∈ SB B E) : owG (celS B E) a e = -1 := by
  unfold SB at h
  obtain ⟨p, hp, h⟩ := List.mem_flatMap.1 h
  have hj : jB B E p ∈ allJ B E := by unfold allJ; rw [bsJ_map, List.mem_append]; exact Or.inl (List.mem_map.2 ⟨p, hp, rfl⟩)
  exact celS_ow hM hT hS hj h
theorem ow_edge (hM : May B E) (hT : ¬ TwoOn B E) (hS : ¬ SelfT B E) {a e : Nat} (h : (a, e) ∈ SE B E) : 0 ≤ owG (celS B E) a e := by
  unfold SE at h
  obtain ⟨p, hp, h⟩ := List.mem_flatMap.1 h
  have hj : jE B E p ∈ allJ B E := by unfold allJ; rw [esJ_map, List.mem_append]; exact Or.inr (List.mem_map.2 ⟨p, hp, rfl⟩)
  rw [celS_ow hM hT hS hj h]
  show (0 : Int) ≤ (p.1 : Int)
  omega
/-! How many sides are an edge's. -/
def isMine (L : List Int) (a e : Nat) : Bool := decide (0 ≤ nxG L a e) && decide (0 ≤ owG L a e)
def mineF (L : List Int) : Nat → Nat
  | 0 => 0
  | p + 1 => mineF L p + if isMine L (p / 4) (p % 4) = true then 1 else 0
theorem mine_len (L : List Int) : ∀ n, mineF L n = ((List.range n).filter fun p => isMine L (p / 4) (p % 4)).length
  | 0 => rfl
  | n + 1 => by
    rw [mineF, mine_len L n, List.range_succ, List.filter_append, List.length_append]
    congr 1
    by_cases h : isMine L (n / 4) (n % 4) = true
    · rw [if_pos h]; simp [h]
    · rw [if_neg h]; simp [h]
theorem nx_nonneg {a e : Nat} (ha : a < cntN B E) (he : e < 4) : 0 ≤ nxG (celS B E) a e ↔ nxG (celS B E) a e ≠ -1 := by
  have := (celS_good B E).2.side ha he
  omega
theorem SE_rg (hM : May B E) {a e : Nat} (h : (a, e) ∈ SE B E) : a < cntN B E ∧ e < 4 := by
  have hcn : cntN B E = cntV B E B.length + bndK E E.length := by unfold cntN; rw [bndK_all]
  unfold SE at h
  obtain ⟨⟨i, k⟩, hx, h⟩ := List.mem_flatMap.1 h
  obtain ⟨hi, hk⟩ := IE_mem.1 hx
  have hbl := bndK_le (E := E) (i := i + 1) (by omega)
  have hd := (drE_int E i k).2
  have ho := opp_lt (drE E i k)
  simp only [List.mem_cons, List.not_mem_nil, or_false] at h
  rcases h with h | h
  · unfold sE1 at h
    simp only [Prod.mk.injEq] at h
    obtain ⟨a1, a2⟩ := xE_rg (B := B) hM hi hk
    by_cases k0 : k = 0
    · have := a1 k0; omega
    · have := a2 (by omega); omega
  · unfold sE2 at h
    simp only [Prod.mk.injEq] at h
    obtain ⟨a1, a2⟩ := yE_rg (B := B) (k := k) hM hi
    by_cases k0 : k = nbE E i
    · have := a1 k0; omega
    · have := a2 (by omega); omega
theorem IE_len (E : List Edg) : (IE E).length = E.length + bndK E E.length := by
  have h : ∀ n, ((List.range n).flatMap fun i => (List.range (nbE E i + 1)).map (Prod.mk i)).length = n + bndK E n := fun n => by
    induction n with
    | zero => rfl
    | succ n ih =>
      rw [List.range_succ, List.flatMap_append, List.length_append, ih]
      simp [bndK]; omega
  exact h _
theorem two_len {ι S : Type} (I : List ι) (f g : ι → S) : (I.flatMap fun x => [f x, g x]).length = 2 * I.length := by
  induction I with
  | nil => rfl
  | cons x I ih => rw [List.flatMap_cons, List.length_append, ih, List.length_cons]; simp; omega
theorem same_len {α : Type} {l m : List α} (hl : l.Nodup) (hm : m.Nodup) (h : ∀ x, x ∈ l ↔ x ∈ m) : l.length = m.length :=
  ((List.perm_ext_iff_of_nodup hl hm).2 h).length_eq
theorem mine_all (hM : May B E) (hT : ¬ TwoOn B E) (hS : ¬ SelfT B E) : mineF (celS B E) (4 * cntN B E) = 2 * (E.length + bendsOf E) := by
  rw [mine_len, ← bndK_all, ← IE_len]
  have hSE : (SE B E).length = 2 * (IE E).length := two_len _ _ _
  rw [← hSE]
  have e1 : (((List.range (4 * cntN B E)).filter fun p => isMine (celS B E) (p / 4) (p % 4)).map fun p => (p / 4, p % 4)).length = (SE B E).length := by
    refine same_len ?_ (SE_nodup hM hT) ?_
    · rw [List.nodup_iff_pairwise_ne, List.pairwise_map]
      refine (List.Pairwise.filter _ (List.nodup_iff_pairwise_ne.1 List.nodup_range)).imp fun {a b} h e => h ?_
      simp only [Prod.mk.injEq] at e
      omega
    · rintro ⟨a, e⟩
      rw [List.mem_map]
      constructor
      · rintro ⟨p, hp, h⟩
        simp only [Prod.mk.injEq] at h
        obtain ⟨rfl, rfl⟩ := h
        rw [List.mem_filter, List.mem_range] at hp
        obtain ⟨hp, hm⟩ := hp
        unfold isMine at hm
        rw [Bool.and_eq_true, decide_eq_true_eq, decide_eq_true_eq] at hm
        have h1 := (celS_nx hM hT hS (a := p / 4) (e := p % 4) (by omega) (by omega)).1 ((nx_nonneg (by omega) (by omega)).1 hm.1)
        rcases List.mem_append.1 h1 with h1 | h1
        · have := ow_box hM hT hS h1; omega
        · exact h1
      · intro h
        obtain ⟨h1, h2⟩ := SE_rg hM h
        refine ⟨4 * a + e, List.mem_filter.2 ⟨List.mem_range.2 (by omega), ?_⟩, ?_⟩
        · rw [show (4 * a + e) / 4 = a by omega, show (4 * a + e) % 4 = e by omega]
          unfold isMine
          rw [decide_eq_true ((nx_nonneg h1 h2).2 ((celS_nx hM hT hS h1 h2).2 (List.mem_append.2 (Or.inr h)))), decide_eq_true (ow_edge hM hT hS h)]; rfl
        · rw [show (4 * a + e) / 4 = a by omega, show (4 * a + e) % 4 = e by omega]
  rw [List.length_map] at e1
  exact e1
/-- No side is nobody's. -/
theorem ow_fine (hM : May B E) (hT : ¬ TwoOn B E) (hS : ¬ SelfT B E) {a e : Nat} (ha : a < cntN B E) (he : e < 4) (h : 0 ≤ nxG (celS B E) a e) : owG (celS B E) a e = -1 ∨ 0 ≤ owG (celS B E) a e := by
  rcases List.mem_append.1 ((celS_nx hM hT hS ha he).1 ((nx_nonneg ha he).1 h)) with h | h
  · exact Or.inl (ow_box hM hT hS h)
  · exact Or.inr (ow_edge hM hT hS h)
/-! How many next ones a cell has. -/
def dgF (L : List Int) (a : Nat) : Nat → Nat
  | 0 => 0
  | e + 1 => dgF L a e + if 0 ≤ nxG L a e then 1 else 0
theorem dg_len (L : List Int) (a : Nat) : ∀ n, dgF L a n = ((List.range n).filter fun e => decide (0 ≤ nxG L a e)).length
  | 0 => rfl
  | n + 1 => by
    rw [dgF, dg_len L a n, List.range_succ, List.filter_append, List.length_append]
    congr 1
    by_cases h : 0 ≤ nxG L a n
    · rw [if_pos h]; simp [h]
    · rw [if_neg h]; simp [h]
theorem dg_le (L : List Int) (a : Nat) : ∀ n, dgF L a n ≤ n
  | 0 => Nat.le_refl _
  | n + 1 => by have := dg_le L a n; rw [dgF]; split <;> omega
theorem dg_list (hM : May B E) (hT : ¬ TwoOn B E) (hS : ¬ SelfT B E) {a : Nat} (ha : a < cntN B E) {l : List Nat} (hl : l.Nodup) (h : ∀ e, e ∈ l ↔ e < 4 ∧ (a, e) ∈ SB B E ++ SE B E) : dgF (celS B E) a 4 = l.length := by
  rw [dg_len]
  refine same_len ?_ hl fun e => ?_
  · exact List.nodup_iff_pairwise_ne.2 (List.Pairwise.filter _ (List.nodup_iff_pairwise_ne.1 List.nodup_range))
  · rw [List.mem_filter, List.mem_range, decide_eq_true_eq, h]
    refine and_congr_right fun he => ?_
    rw [nx_nonneg ha he, celS_nx hM hT hS ha he]
/-- A bend's cell has two. -/
theorem dg_bend (hM : May B E) (hT : ¬ TwoOn B E) (hS : ¬ SelfT B E) {i k : Nat} (hi : i < E.length) (hk : k < nbE E i) : cntV B E B.length + bndK E i + k < cntN B E ∧ dgF (celS B E) (cntV B E B.length + bndK E i + k) 4 = 2 := by
  have hcn : cntN B E = cntV B E B.length + bndK E E.length := by unfold cntN; rw [bndK_all]
  have hb : bndK E (i + 1) = bndK E i + nbE E i := rfl
  have hbl := bndK_le (E := E) (i := i + 1) (by omega)
  have ha : cntV B E B.length + bndK E i + k < cntN B E := by omega
  refine ⟨ha, dg_list hM hT hS ha (l := [drE E i (k + 1), opp (drE E i k)]) (by have := drE_turn hk; simpa using this) fun e => ?_⟩
  simp only [List.mem_cons, List.not_mem_nil, or_false, List.mem_append]
  constructor
  · rintro (rfl | rfl)
    · refine ⟨(drE_int E i _).2, Or.inr (List.mem_flatMap.2 ⟨(i, k + 1), IE_mem.2 ⟨hi, by omega⟩, ?_⟩)⟩
      have : sE1 B E (i, k + 1) = (cntV B E B.length + bndK E i + k, drE E i (k + 1)) := by unfold sE1 xE; rw [if_neg (by simp)]; rfl
      rw [this]; simp
    · refine ⟨opp_lt _, Or.inr (List.mem_flatMap.2 ⟨(i, k), IE_mem.2 ⟨hi, by omega⟩, ?_⟩)⟩
      have : sE2 B E (i, k) = (cntV B E B.length + bndK E i + k, opp (drE E i k)) := by
        unfold sE2 yE
        rw [if_neg (by show ¬ k = nbE E i; omega)]
      rw [this]; simp
  · rintro ⟨he, h | h⟩
    · obtain ⟨v, d, hv, _, _, _, h2, _⟩ := SB_case h
      have := cnt_up B E hv
      omega
    · obtain ⟨⟨j, q⟩, hx, h⟩ := List.mem_flatMap.1 h
      obtain ⟨hj, hq⟩ := IE_mem.1 hx
      simp only [List.mem_cons, List.not_mem_nil, or_false] at h
      rcases h with h | h
      · unfold sE1 at h
        simp only [Prod.mk.injEq] at h
        obtain ⟨h1, h2⟩ := h
        obtain ⟨a1, a2⟩ := xE_rg (B := B) hM hj hq
        by_cases q0 : q = 0
        · have := a1 q0; omega
        · have c := a2 (by omega)
          have : i = j := bnd_in (E := E) (a := bndK E i + k) (by omega) (by omega) (by omega) (by omega)
          subst this
          have : q = k + 1 := by omega
          subst this
          exact Or.inl h2
      · unfold sE2 at h
        simp only [Prod.mk.injEq] at h
        obtain ⟨h1, h2⟩ := h
        obtain ⟨a1, a2⟩ := yE_rg (B := B) (k := q) hM hj
        by_cases q0 : q = nbE E j
        · have := a1 q0; omega
        · have c := a2 (by omega)
          have : i = j := bnd_in (E := E) (a := bndK E i + k) (by omega) (by omega) (by omega) (by omega)
          subst this
          have : q = k := by omega
          subst this
          exact Or.inr h2
/-- A box's first corner has two. -/
theorem dg_box (hM : May B E) (hT : ¬ TwoOn B E) (hS : ¬ SelfT B E) {v : Nat} (hv : v < B.length) (hb : B.getD v false = true) : cntV B E v < cntN B E ∧ dgF (celS B E) (cntV B E v) 4 = 2 := by
  have hcn : cntN B E = cntV B E B.length + bndK E E.length := by unfold cntN; rw [bndK_all]
  have hup := cnt_up B E hv
  have h3 : cntV B E (v + 1) = cntV B E v + (4 + sidesK E (v : Int) 4) := by show cntV B E v + vtxC B E v = _; unfold vtxC; rw [if_pos hb]
  have ha : cntV B E v < cntN B E := by omega
  refine ⟨ha, dg_list hM hT hS ha (l := [1, 0]) (by decide) fun e => ?_⟩
  simp only [List.mem_cons, List.not_mem_nil, or_false, List.mem_append]
  constructor
  · rintro (rfl | rfl)
    · refine ⟨by omega, Or.inl (List.mem_flatMap.2 ⟨(v, (2, 0)), IB_mem.2 ⟨hv, hb, by omega, by omega⟩, ?_⟩)⟩
      have : sB1 B E (v, (2, 0)) = (cntV B E v, 1) := by unfold sB1 xB; rw [if_pos rfl]; rfl
      rw [this]; simp
    · refine ⟨by omega, Or.inl (List.mem_flatMap.2 ⟨(v, (3, 0)), IB_mem.2 ⟨hv, hb, by omega, by omega⟩, ?_⟩)⟩
      have : sB1 B E (v, (3, 0)) = (cntV B E v, 0) := by unfold sB1 xB; rw [if_pos rfl]; rfl
      rw [this]; simp
  · rintro ⟨he, h | h⟩
    · obtain ⟨⟨u, d, k⟩, hx, h⟩ := List.mem_flatMap.1 h
      obtain ⟨hu, hc, hd, hk⟩ := IB_mem.1 hx
      simp only [List.mem_cons, List.not_mem_nil, or_false] at h
      rcases h with h | h
      · unfold sB1 at h
        simp only [Prod.mk.injEq] at h
        obtain ⟨h1, h2⟩ := h
        have hw := wyN_lt d
        omega
      · exfalso
        unfold sB2 at h
        simp only [Prod.mk.injEq] at h
        obtain ⟨h1, h2⟩ := h
        obtain ⟨a1, a2, a3, a4⟩ := yB_rg hc hd hk
        have : v = u := cnt_in (B := B) (E := E) (a := cntV B E v) (by omega) (by omega) (by omega) (by omega)
        subst this
        by_cases k0 : k = lnB E v d
        · unfold yB at h1
          rw [if_pos k0] at h1
          unfold toN at h1
          have hc4 : d = 0 ∨ d = 1 ∨ d = 2 ∨ d = 3 := by omega
          rcases hc4 with rfl | rfl | rfl | rfl <;> simp at h1
        · have := a4 (by omega); omega
    · exfalso
      rcases SE_case hM h with h | ⟨t, ht, hc, hd⟩
      · omega
      · obtain ⟨r1, r2, r3⟩ := cEn_rg hM ht
        have : v = vEn E t := cnt_in (B := B) (E := E) (a := cntV B E v) (by omega) (by omega) (by omega) (by omega)
        subst this
        obtain ⟨j, hj, _, cj⟩ := cEn_box hM ht hb
        omega
/-- A point's cell has as many as ends stand there. -/
theorem dg_point (hM : May B E) (hT : ¬ TwoOn B E) (hS : ¬ SelfT B E) {v : Nat} (hv : v < B.length) (hb : B.getD v false = false) : cntV B E v < cntN B E ∧ dgF (celS B E) (cntV B E v) 4 = sidesK E (v : Int) 4 := by
  have hcn : cntN B E = cntV B E B.length + bndK E E.length := by unfold cntN; rw [bndK_all]
  have hup := cnt_up B E hv
  have h3 : cntV B E (v + 1) = cntV B E v + 1 := by show cntV B E v + vtxC B E v = _; unfold vtxC; rw [if_neg (by rw [hb]; decide)]
  have ha : cntV B E v < cntN B E := by omega
  refine ⟨ha, ?_⟩
  have side : ∀ d, d < 4 → (0 ≤ nxG (celS B E) (cntV B E v) d ↔ 0 < (onL E (v : Int) (d : Int)).length) := by
    intro d hd
    rw [nx_nonneg ha hd, celS_nx hM hT hS ha hd, List.mem_append]
    constructor
    · rintro (h | h)
      · exfalso
        obtain ⟨u, e, hu, hc, _, h1, h2, _⟩ := SB_case h
        have : v = u := cnt_in (B := B) (E := E) (a := cntV B E v) (by omega) (by omega) h1 h2
        subst this
        rw [hb] at hc; cases hc
      · rcases SE_case hM h with h | ⟨t, ht, hc, hd2⟩
        · omega
        · obtain ⟨r1, r2, r3⟩ := cEn_rg hM ht
          have hvt : vEn E t = v := cnt_in (B := B) (E := E) (a := cntV B E v) (by omega) (by omega) (by omega) (by omega)
          exact List.length_pos_of_mem ((mem_end hM).2 ⟨t, rfl, ht, hvt, hd2.symm⟩)
    · intro h
      obtain ⟨t, e, ht, hvt, hdt⟩ := (mem_end hM).1 (onL_at (E := E) (v := (v : Int)) (d := (d : Int)) h)
      have hc := cEn_point hM ht (by rw [hvt]; exact hb)
      rw [hvt] at hc
      refine Or.inr ?_
      unfold SE
      rw [List.mem_flatMap]
      by_cases hp : t % 2 = 0
      · refine ⟨(t / 2, 0), IE_mem.2 ⟨by omega, Nat.zero_le _⟩, ?_⟩
        have : sE1 B E (t / 2, 0) = (cntV B E v, d) := by
          unfold sE1 xE
          rw [if_pos rfl]
          show (cEn B E (2 * (t / 2)), drE E (t / 2) 0) = _
          rw [drE_zero hM (by omega), show 2 * (t / 2) = t by omega, hc, hdt]
        rw [this]; simp
      · refine ⟨(t / 2, nbE E (t / 2)), IE_mem.2 ⟨by omega, Nat.le_refl _⟩, ?_⟩
        have : sE2 B E (t / 2, nbE E (t / 2)) = (cntV B E v, d) := by
          unfold sE2 yE
          rw [if_pos rfl]
          show (cEn B E (2 * (t / 2) + 1), opp (drE E (t / 2) (nbE E (t / 2)))) = _
          rw [drE_last, show 2 * (t / 2) + 1 = t by omega, hc, hdt]
        rw [this]; simp
  have all : ∀ d, d ≤ 4 → dgF (celS B E) (cntV B E v) d = sidesK E (v : Int) d := by
    intro d
    induction d with
    | zero => intro _; rfl
    | succ d ih =>
      intro hd
      rw [dgF, sidesK, ih (by omega)]
      have h1 : (onL E (v : Int) (d : Int)).length ≤ 1 := Nat.le_of_not_lt fun h => hT ⟨v, d, hv, by omega, hb, h⟩
      have h2 := side d (by omega)
      by_cases h : 0 ≤ nxG (celS B E) (cntV B E v) d
      · have := h2.1 h; rw [if_pos h]; omega
      · rw [if_neg h]
        have : ¬ 0 < (onL E (v : Int) (d : Int)).length := fun h9 => h (h2.2 h9)
        omega
  exact all 4 (Nat.le_refl _)
/-- How many ends a vertex has. -/
def wantF (E : List Edg) (v : Int) : Nat → Nat
  | 0 => 0
  | k + 1 => wantF E v k + (if (E.getD k noE).1 = v then 1 else 0) + (if (E.getD k noE).2.1 = v then 1 else 0)
theorem want_is (hM : May B E) (v : Int) : wantF E v E.length = sidesK E v 4 := by
  have h : ∀ k, k ≤ E.length → wantF E v k = (onK E v 0 k).length + (onK E v 1 k).length + (onK E v 2 k).length + (onK E v 3 k).length := by
    intro k
    induction k with
    | zero => intro _; rfl
    | succ k ih =>
      intro hk
      obtain ⟨-, -, -, -, h5, h6, -⟩ := hM.ok _ (mem_getD (show k < E.length by omega))
      have hs := side_rg (E.getD k noE)
      have l1 : ∀ d, (on1 v d k (E.getD k noE)).length = (if (E.getD k noE).1 = v ∧ (E.getD k noE).2.2.1 = d then 1 else 0) + (if (E.getD k noE).2.1 = v ∧ sideT (E.getD k noE) = d then 1 else 0) := fun d => by
        unfold on1
        rw [List.length_append]
        split <;> split <;> rfl
      rw [wantF, ih (by omega)]
      simp only [onK, List.length_append, l1]
      generalize (E.getD k noE).2.2.1 = z at h5 h6
      generalize sideT (E.getD k noE) = y at hs
      generalize (E.getD k noE).1 = p1
      generalize (E.getD k noE).2.1 = p2
      have hz : z = 0 ∨ z = 1 ∨ z = 2 ∨ z = 3 := by omega
      have hy : y = 0 ∨ y = 1 ∨ y = 2 ∨ y = 3 := by omega
      by_cases c1 : p1 = v
      · by_cases c2 : p2 = v
        · rcases hz with rfl | rfl | rfl | rfl <;> rcases hy with rfl | rfl | rfl | rfl <;> simp [c1, c2] <;> omega
        · rcases hz with rfl | rfl | rfl | rfl <;> simp [c1, c2] <;> omega
      · by_cases c2 : p2 = v
        · rcases hy with rfl | rfl | rfl | rfl <;> simp [c1, c2] <;> omega
        · simp [c1, c2]
  rw [h _ (Nat.le_refl _)]
  show _ = 0 + (onK E v 0 E.length).length + (onK E v 1 E.length).length + (onK E v 2 E.length).length + (onK E v 3 E.length).length
  omega
end
end Go.Proofs.YtecifgaekefkpaaDoor

namespace Go.Proofs.YtecifgaekefkpaaDoor
open Go.RowKit Go.Proofs.YtecifgaekefkpaaDoor.LexM Go.Proofs.YtecifgaekefkpaaDoor.ParM Go.Proofs.YtecifgaekefkpaaDoor.GrM Go.Proofs.YtecifgaekefkpaaDoor.NmM

def DgRel (L : List Int) (a : Nat) (w wr : World) (cv iv : Value) : Prop := ∃ (j : Nat) (z c : Int), iv = .int .i64 z ∧ z = (j : Int) ∧ j ≤ 4 ∧ cv = .int .i64 c ∧ c = (dgF L a j : Nat) ∧ wr = w
theorem iy0 (x0 x1 x2 x3 : Value) (w : World) : (Instr.index 49 (.agg #[x0, x1, x2, x3]) (.int .i64 0)).run Tryd.prog w = .ok x0 w := by kernel_rfl
theorem iy1 (x0 x1 x2 x3 : Value) (w : World) : (Instr.index 49 (.agg #[x0, x1, x2, x3]) (.int .i64 1)).run Tryd.prog w = .ok x1 w := by kernel_rfl
theorem iy2 (x0 x1 x2 x3 : Value) (w : World) : (Instr.index 49 (.agg #[x0, x1, x2, x3]) (.int .i64 2)).run Tryd.prog w = .ok x2 w := by kernel_rfl
theorem iy3 (x0 x1 x2 x3 : Value) (w : World) : (Instr.index 49 (.agg #[x0, x1, x2, x3]) (.int .i64 3)).run Tryd.prog w = .ok x3 w := by kernel_rfl
set_option maxHeartbeats 4000000 in
set_option maxRecDepth 100000 in
theorem degY (pn a n : Nat) (A1 : Option Addr) (k1 : Nat) (L : List Int) (w : World) (hK : w.cell? ⟨pn, 0, none⟩ = some (.slice A1 n k1)) (hL : CelAt w (.slice A1 n k1) L n) (ha : a < n) :
    Calls Tryd.prog 14 #[.int .i64 a, .pointer (some ⟨pn, 0, none⟩)] w fun e w' => e = .returned (.int .i64 (dgF L a 4 : Nat)) ∧ w = w' := by
  obtain ⟨b, o9, c', e, hb, hx, -⟩ := hL.nth ha
  simp only [Value.slice.injEq, true_and] at e
  obtain ⟨rfl, rfl⟩ := e
  have f0 : w.cell? ⟨b, o9 + a * 8, none⟩ = some (.int .i64 (nxG L a 0)) := hx 0 (by decide)
  have f1 := hx 1 (by decide)
  have f2 := hx 2 (by decide)
  have f3 := hx 3 (by decide)
  have S0 : Hid (∀ j, dgF L a (j + 1) = dgF L a j + if 0 ≤ nxG L a j then 1 else 0) := Lib.hid (fun j => rfl)
  have SL := Lib.hid (dg_le L a)
  obtain ⟨y0, h0⟩ : ∃ y, nxG L a 0 = y := ⟨_, rfl⟩
  obtain ⟨y1, h1⟩ : ∃ y, nxG L a 1 = y := ⟨_, rfl⟩
  obtain ⟨y2, h2⟩ : ∃ y, nxG L a 2 = y := ⟨_, rfl⟩
  obtain ⟨y3, h3⟩ : ∃ y, nxG L a 3 = y := ⟨_, rfl⟩
  rw [h0] at f0
  rw [h1] at f1
  rw [h2] at f2
  rw [h3] at f3
  have Y0 := Lib.hid h0
  have Y1 := Lib.hid h1
  have Y2 := Lib.hid h2
  have Y3 := Lib.hid h3
  clear hL hx h0 h1 h2 h3
  go_enter Tryd.func14, Tryd.ntmps14
  go_wp2
  go_loopw [4, 13] (fun cv iv wr => DgRel L a w wr cv iv) (fun _ iv _ => 4 - (intOf iv).toNat)
  case atStart => exact ⟨0, 0, 0, rfl, rfl, by omega, rfl, rfl, rfl⟩
  case round =>
    obtain ⟨j, z, c, rfl, hz, hj, rfl, hc, rfl⟩ := hrel
    have hle := SL.out j
    have ST := Lib.hid (S0.out j)
    by_cases hlt : j < 4
    · have h4 : j = 0 ∨ j = 1 ∨ j = 2 ∨ j = 3 := by omega
      have key : ∀ y : Int, nxG L a j = y → ∀ c2 : Int, c2 = c + (if 0 ≤ y then 1 else 0) → c2 = (dgF L a (j + 1) : Nat) := fun y hy c2 h => by
        have := ST.out
        rw [hy] at this
        rw [this, h, hc]
        split <;> simp
      have KEY := Lib.hid key
      clear key ST
      have C := Lib.hid hc
      have cr : 0 ≤ c ∧ c ≤ 4 := by omega
      clear hc
      rcases h4 with rfl | rfl | rfl | rfl
      · have hz0 : z = 0 := by simpa using hz
        clear hz
        subst hz0
        have ix := iy0 (.int .i64 y0) (.int .i64 y1) (.int .i64 y2) (.int .i64 y3)
        by_cases hy : 0 ≤ y0
        · have q := decide_eq_true hy
          go_wp2
          go_roundw
          case rel => exact ⟨1, 1, _, rfl, rfl, by omega, rfl, KEY.out y0 Y0.out _ (by rw [if_pos hy]; (try go_num)), rfl⟩
          case measure => simp [intOf]
        · have q := decide_eq_false hy
          go_wp2
          go_roundw
          case rel => exact ⟨1, 1, _, rfl, rfl, by omega, rfl, KEY.out y0 Y0.out _ (by rw [if_neg hy]; (try go_num)), rfl⟩
          case measure => simp [intOf]
      · have hz0 : z = 1 := by simpa using hz
        clear hz
        subst hz0
        have ix := iy1 (.int .i64 y0) (.int .i64 y1) (.int .i64 y2) (.int .i64 y3)
        by_cases hy : 0 ≤ y1
        · have q := decide_eq_true hy
          go_wp2
          go_roundw
          case rel => exact ⟨2, 2, _, rfl, rfl, by omega, rfl, KEY.out y1 Y1.out _ (by rw [if_pos hy]; (try go_num)), rfl⟩
          case measure => simp [intOf]
        · have q := decide_eq_false hy
          go_wp2
          go_roundw
          case rel => exact ⟨2, 2, _, rfl, rfl, by omega, rfl, KEY.out y1 Y1.out _ (by rw [if_neg hy]; (try go_num)), rfl⟩
          case measure => simp [intOf]
      · have hz0 : z = 2 := by simpa using hz
        clear hz
        subst hz0
        have ix := iy2 (.int .i64 y0) (.int .i64 y1) (.int .i64 y2) (.int .i64 y3)
        by_cases hy : 0 ≤ y2
        · have q := decide_eq_true hy
          go_wp2
          go_roundw
          case rel => exact ⟨3, 3, _, rfl, rfl, by omega, rfl, KEY.out y2 Y2.out _ (by rw [if_pos hy]; (try go_num)), rfl⟩
          case measure => simp [intOf]
        · have q := decide_eq_false hy
          go_wp2
          go_roundw
          case rel => exact ⟨3, 3, _, rfl, rfl, by omega, rfl, KEY.out y2 Y2.out _ (by rw [if_neg hy]; (try go_num)), rfl⟩
          case measure => simp [intOf]
      · have hz0 : z = 3 := by simpa using hz
        clear hz
        subst hz0
        have ix := iy3 (.int .i64 y0) (.int .i64 y1) (.int .i64 y2) (.int .i64 y3)
        by_cases hy : 0 ≤ y3
        · have q := decide_eq_true hy
          go_wp2
          go_roundw
          case rel => exact ⟨4, 4, _, rfl, rfl, by omega, rfl, KEY.out y3 Y3.out _ (by rw [if_pos hy]; (try go_num)), rfl⟩
          case measure => simp [intOf]
        · have q := decide_eq_false hy
          go_wp2
          go_roundw
          case rel => exact ⟨4, 4, _, rfl, rfl, by omega, rfl, KEY.out y3 Y3.out _ (by rw [if_neg hy]; (try go_num)), rfl⟩
          case measure => simp [intOf]
    · have hj4 : j = 4 := by omega
      subst hj4
      have hz4 : z = 4 := by simpa using hz
      clear hz
      subst hz4
      have C := Lib.hid hc
      clear ST hc
      go_wp2
      go_ret
      exact ⟨ret_int C.out, rfl⟩
end Go.Proofs.YtecifgaekefkpaaDoor
