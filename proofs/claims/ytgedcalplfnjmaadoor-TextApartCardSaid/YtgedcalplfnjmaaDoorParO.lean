/-
  Texts of many vertices, edges, bends: what they are parsed to; no program stands here. Conditions: none.
-/
import Derived.Test.YtgedcalplfnjmaaDoorParN
namespace Go.Proofs.YtgedcalplfnjmaaDoor.ParM
open Go.Lib Go.Proofs.YtgedcalplfnjmaaDoor.LexM

def falses (v : Nat) : List Bool := List.replicate v false
/-- The edge of a number: only the last one has bends. -/
def manyAt (e b k : Nat) : Edg := (0, 0, 0, if k + 1 = e then List.replicate b 76 else [])
def manyE (e b : Nat) : List Edg := (List.range e).map (manyAt e b)
theorem many_len (e b : Nat) : (manyE e b).length = e := by simp [manyE]
theorem many_get {e b k : Nat} (h : k < (manyE e b).length) : (manyE e b)[k] = manyAt e b k := by simp [manyE]
theorem many_take {e b k : Nat} (h : k < e) : (manyE e b).take (k + 1) = (manyE e b).take k ++ [manyAt e b k] := by
  have h1 : k < (manyE e b).length := by rw [many_len]; exact h
  rw [List.take_succ_eq_append_getElem h1, many_get h1]
theorem many_all (e b : Nat) : (manyE e b).take e = manyE e b := List.take_of_length_le (by rw [many_len]; exact Nat.le_refl _)
theorem many_zero {e b : Nat} : ∀ {k : Nat}, k < e → bendsOf ((manyE e b).take k) = 0
  | 0, _ => by simp [bendsOf]
  | k + 1, h => by
    rw [many_take (by omega), bendsOf_snoc, many_zero (by omega)]
    unfold manyAt
    rw [if_neg (by omega)]; rfl
theorem many_bends {e b : Nat} (h : e = 0 → b = 0) : bendsOf (manyE e b) = b := by
  cases e with
  | zero => rw [h rfl]; rfl
  | succ e =>
    rw [← many_all, many_take (by omega), bendsOf_snoc, many_zero (by omega)]
    unfold manyAt
    simp
theorem turns_rep (b : Nat) : isTurns (List.replicate b 76) = true := by
  unfold isTurns
  rw [List.all_eq_true]
  intro x hx
  rw [(List.mem_replicate.1 hx).2]; rfl
theorem many_ok {n : Nat} (hn : 0 < n) {e b : Nat} : ∀ x ∈ manyE e b, okE n x := by
  intro x hx
  obtain ⟨k, _, rfl⟩ := List.mem_map.1 hx
  refine ⟨Int.le_refl _, by show (0 : Int) < n; omega, Int.le_refl _, by show (0 : Int) < n; omega, Int.le_refl _, by show (0 : Int) ≤ 3; decide, ?_⟩
  unfold manyAt
  simp only
  split
  · exact turns_rep b
  · rfl
theorem falses_len (v : Nat) : (falses v).length = v := by simp [falses]
theorem many_may {v e b : Nat} (hv : v ≤ 4096) (he : e ≤ 4096) (hb : b ≤ 4096) (h1 : v = 0 → e = 0) (h2 : e = 0 → b = 0) : May (falses v) (manyE e b) := by
  refine ⟨by rw [falses_len]; exact hv, by rw [many_len]; exact he, by rw [many_bends h2]; exact hb, ?_⟩
  rw [falses_len]
  by_cases h0 : e = 0
  · subst h0; simp [manyE]
  · exact many_ok (by omega)
theorem many_short {v e b : Nat} (hv : v ≤ 5000) (he : e ≤ 5000) (hb : b ≤ 5000) (h2 : e = 0 → b = 0) : (printS (falses v) (manyE e b)).length ≤ 200000 := by
  unfold printS linL
  rw [glue_append, List.length_append]
  have h3 := edges_len (n := 1) (by decide) (manyE e b) (many_ok (by decide))
  have h4 := fstL_len (falses v)
  rw [many_len, many_bends h2] at h3
  rw [falses_len] at h4
  rw [glue, List.length_append, List.length_cons]
  have h5 : (glue 10 [endW]).length = 4 := by decide
  rw [h5]
  omega
theorem many_free {v e b : Nat} : ∀ p ∈ linL (falses v) (manyE e b), (10 : UInt8) ∉ p := by
  intro p hp
  unfold linL at hp
  rcases List.mem_append.1 hp with hp | hp
  · rcases List.mem_cons.1 hp with rfl | hp
    · exact fstL_free _
    · obtain ⟨x, hx, rfl⟩ := List.mem_map.1 hp
      exact edgL_free (many_ok (n := 1) (by decide) x hx) (by decide)
  · obtain rfl := List.mem_singleton.1 hp; decide
/-- Too many vertices. -/
theorem many_v {v e b : Nat} (hv : 4096 < v) (hv2 : v ≤ 5000) (he : e ≤ 5000) (hb : b ≤ 5000) (h2 : e = 0 → b = 0) : par (printS (falses v) (manyE e b)) = (6, 1, [], []) := by
  have hs := many_short hv2 he hb h2
  obtain ⟨e1, e2⟩ := lines_glue (many_free (v := v) (e := e) (b := b)) (Nat.le_trans hs (by decide))
  have hf := fst_many (B := falses v) (by rw [falses_len]; exact hv)
  unfold par printS
  rw [e1, e2, if_neg (by simp)]
  unfold linL
  simp only [List.cons_append]
  rw [hf, if_pos (by decide)]
/-- One edge too many, or one bend. -/
theorem par_stop {B : List Bool} {E1 : List Edg} {x : Edg} {T : List (List UInt8)} (hM : May B E1) (hx : okE B.length x) (hT : ∀ p ∈ T, (10 : UInt8) ∉ p) (hl : (glue 10 (fstL B :: E1.map edgL ++ edgL x :: T)).length ≤ 1048576)
    (h : 4096 < E1.length + 1 ∨ 4096 < bendsOf E1 + x.2.2.2.length) : par (glue 10 (fstL B :: E1.map edgL ++ edgL x :: T)) = (6, (E1.length : Int) + 2, [], []) := by
  rw [par_lines hM (edgL x :: T) (fun p hp => by
    rcases List.mem_cons.1 hp with rfl | hp
    · exact edgL_free hx hM.vs
    · exact hT p hp) hl]
  have g : goE B.length (edgL x :: T) (1 + E1.length) E1 (bendsOf E1) = (6, (E1.length : Int) + 2, []) := by
    have hk := edg_back hx hM.vs
    rw [goE, if_neg (edgL_end hx hM.vs), if_neg (by rw [hk.1]; simp), hk.2, if_pos h]
    refine Prod.ext rfl (Prod.ext ?_ rfl)
    show ((1 + E1.length : Nat) : Int) + 1 = (E1.length : Int) + 2
    omega
  rw [g]
  rfl
theorem many_stop {v e b k : Nat} (hv0 : 0 < v) (hv : v ≤ 4096) (he : e ≤ 5000) (hb : b ≤ 5000) (hk : k < e) (hk2 : k ≤ 4096) (h : 4096 < k + 1 ∨ (k + 1 = e ∧ 4096 < b)) :
    par (printS (falses v) (manyE e b)) = (6, (k : Int) + 2, [], []) := by
  have h2 : e = 0 → b = 0 := fun h => by omega
  have hs := many_short (v := v) (by omega) he hb h2
  have hlen := many_len e b
  have hkE : k < (manyE e b).length := by rw [hlen]; exact hk
  have hf := many_free (v := v) (e := e) (b := b)
  have eq : linL (falses v) (manyE e b) = fstL (falses v) :: ((manyE e b).take k).map edgL ++ edgL (manyAt e b k) :: (((manyE e b).drop (k + 1)).map edgL ++ [endW]) := by
    unfold linL
    conv => lhs; rw [← List.take_append_drop k (manyE e b), List.drop_eq_getElem_cons hkE, many_get hkE]
    simp
  unfold printS at hs ⊢
  rw [eq] at hs hf ⊢
  have hok : ∀ x ∈ manyE e b, okE (falses v).length x := many_ok (by rw [falses_len]; exact hv0)
  have hM : May (falses v) ((manyE e b).take k) := ⟨by rw [falses_len]; exact hv, by rw [List.length_take]; omega, by rw [many_zero hk]; decide, fun x hx => hok x (List.mem_of_mem_take hx)⟩
  have hx : okE (falses v).length (manyAt e b k) := by rw [← many_get hkE]; exact hok _ (List.getElem_mem hkE)
  have hT : ((manyE e b).take k).length = k := by rw [List.length_take]; omega
  have := par_stop hM hx (fun p hp => hf p (List.mem_append_right _ (List.mem_cons_of_mem _ hp))) (Nat.le_trans hs (by decide)) (by
    rw [hT, many_zero hk]
    rcases h with h | ⟨h, h'⟩
    · exact .inl h
    · right
      unfold manyAt
      simp only [if_pos h, List.length_replicate]
      omega)
  rw [this, hT]
/-- What it is parsed to: the line, the error. -/
def manyN (v e b : Nat) : Int := if 4096 < v then 1 else if 4096 < e then 4098 else if 4096 < b then e + 1 else 0
def manyZ (v e b : Nat) : Int := if 4096 < v ∨ 4096 < e ∨ 4096 < b then 6 else 0
theorem many_par {v e b : Nat} (hv : v ≤ 5000) (he : e ≤ 5000) (hb : b ≤ 5000) (h1 : v = 0 → e = 0) (h2 : e = 0 → b = 0) :
    par (printS (falses v) (manyE e b)) = (manyZ v e b, manyN v e b, if manyZ v e b = 0 then falses v else [], if manyZ v e b = 0 then manyE e b else []) := by
  unfold manyZ manyN
  by_cases c1 : 4096 < v
  · rw [many_v c1 hv he hb h2, if_pos c1, if_pos (.inl c1)]; rfl
  · rw [if_neg c1]
    by_cases c2 : 4096 < e
    · rw [many_stop (k := 4096) (by omega) (by omega) he hb (by omega) (by omega) (by omega), if_pos c2, if_pos (.inr (.inl c2))]; rfl
    · rw [if_neg c2]
      by_cases c3 : 4096 < b
      · rw [many_stop (k := e - 1) (by omega) (by omega) he hb (by omega) (by omega) (by omega), if_pos c3, if_pos (.inr (.inr c3))]
        refine Prod.ext rfl (Prod.ext ?_ rfl)
        show ((e - 1 : Nat) : Int) + 2 = (e : Int) + 1
        omega
      · rw [if_neg c3, if_neg (by omega)]
        exact par_print (many_may (by omega) (by omega) (by omega) h1 h2) (Nat.le_trans (many_short hv he hb h2) (by decide))
theorem cat_list (a b : ByteArray) : (a ++ b).data.toList = a.data.toList ++ b.data.toList := by simp
/-! The text, line by line. -/
theorem glue_snoc (c : UInt8) (A : List (List UInt8)) (l : List UInt8) : glue c (A ++ [l]) = glue c A ++ (l ++ [c]) := by
  rw [glue_append]
  simp [glue]
theorem fst_falses (v : Nat) : fstL (falses v) = [115, 104, 97, 112, 101, 32] ++ (if v = 0 then [45] else List.replicate v 112) := by
  unfold fstL spc spc vtxL falses
  by_cases h : v = 0
  · subst h; rfl
  · rw [if_neg h, if_neg (by simp [h])]
    simp [shapeW]
theorem edg_many (e b k : Nat) : edgL (manyAt e b k) = [48, 32, 69, 32, 48] ++ (if k + 1 = e then (if b = 0 then [] else 32 :: List.replicate b 76) else []) := by
  rw [edgL_eq]
  have h1 : itoa (manyAt e b k).1 = [48] := by show itoa 0 = _; kernel_rfl
  have h2 : letD (manyAt e b k).2.2.1 = [69] := rfl
  have h3 : itoa (manyAt e b k).2.1 = [48] := h1
  rw [h1, h2, h3]
  unfold manyAt
  simp only
  by_cases h : k + 1 = e
  · simp only [if_pos h]
    by_cases hb : b = 0
    · subst hb; simp
    · have : List.replicate b (76 : UInt8) ≠ [] := by simp [hb]
      rw [if_neg this, if_neg hb]; rfl
  · simp only [if_neg h]; rfl
/-- The text ahead of the k-th edge's line. -/
def manyT (v e b k : Nat) : List UInt8 := glue 10 (fstL (falses v) :: ((manyE e b).take k).map edgL)
theorem manyT_zero (v e b : Nat) : manyT v e b 0 = fstL (falses v) ++ [10] := by simp [manyT, glue]
theorem manyT_next {v e b k : Nat} (h : k < e) : manyT v e b (k + 1) = manyT v e b k ++ (edgL (manyAt e b k) ++ [10]) := by
  unfold manyT
  rw [many_take h, List.map_append, ← List.cons_append]
  exact glue_snoc 10 _ _
theorem manyT_last (v e b : Nat) : manyT v e b e ++ [101, 110, 100, 10] = printS (falses v) (manyE e b) := by
  unfold manyT printS linL
  rw [many_all]
  exact (glue_snoc 10 _ endW).symm
theorem manyT_len {v e b k : Nat} (hv : v ≤ 5000) (he : e ≤ 5000) (hb : b ≤ 5000) (h2 : e = 0 → b = 0) (hk : k ≤ e) : (manyT v e b k).length ≤ 200000 := by
  have h : ∀ j, k + j ≤ e → (manyT v e b k).length ≤ (manyT v e b (k + j)).length := by
    intro j
    induction j with
    | zero => intro _; exact Nat.le_refl _
    | succ j ih =>
      intro hj
      have h1 := ih (by omega)
      rw [← Nat.add_assoc, manyT_next (by omega), List.length_append]
      omega
  have h1 := h (e - k) (by omega)
  have h3 := congrArg List.length (manyT_last v e b)
  have h4 := many_short hv he hb h2
  rw [List.length_append] at h3
  rw [show k + (e - k) = e by omega] at h1
  omega
end Go.Proofs.YtgedcalplfnjmaaDoor.ParM
