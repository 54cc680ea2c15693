/-
  A shape's text, as a list of bytes, is parsed to that shape; lines left out, doubled, joined; no program stands here. Conditions: none.
-/
import Derived.Test.YtgedcalplfnjmaaDoorParM
import Derived.Lib.ItoaLen
namespace Go.Proofs.YtgedcalplfnjmaaDoor.ParM
open Go.Lib Go.Proofs.YtgedcalplfnjmaaDoor.LexM

/-! Lines and words put together. -/
theorem pieces_no (c : UInt8) : ∀ p : List UInt8, c ∉ p → pieces c p = [p]
  | [], _ => rfl
  | b :: t, h => by
    have hb : b ≠ c := fun e => h (by simp [e])
    have ih := pieces_no c t (fun e => h (by simp [e]))
    simp only [pieces, List.cons.injEq] at ih
    simp [pieces, pr, hb, ih.1, ih.2]
theorem pieces_cons (c : UInt8) : ∀ p t : List UInt8, c ∉ p → pieces c (p ++ c :: t) = p :: pieces c t
  | [], t, _ => by simp [pieces, pr]
  | b :: p, t, h => by
    have hb : b ≠ c := fun e => h (by simp [e])
    have ih := pieces_cons c p t (fun e => h (by simp [e]))
    simp only [pieces, List.cons.injEq] at ih
    simp [pieces, pr, hb, ih.1, ih.2]
theorem pieces_both (c : UInt8) : ∀ p t : List UInt8, pieces c (p ++ c :: t) = pieces c p ++ pieces c t
  | [], t => by simp [pieces, pr]
  | b :: p, t => by
    have ih := pieces_both c p t
    simp only [pieces, List.cons_append, List.cons.injEq] at ih ⊢
    by_cases hb : b = c
    · subst hb; simp [pr, ih.1, ih.2]
    · simp [pr, hb, ih.1, ih.2]
theorem pieces_glue (c : UInt8) : ∀ L : List (List UInt8), (∀ p ∈ L, c ∉ p) → pieces c (glue c L) = L ++ [[]]
  | [], _ => rfl
  | p :: L, h => by
    rw [glue, pieces_cons c p _ (h p (by simp)), pieces_glue c L (fun q hq => h q (by simp [hq]))]; rfl
theorem ps_glue {c : UInt8} {L : List (List UInt8)} (h : ∀ p ∈ L, c ∉ p) : ps c (glue c L) = (L, []) := by
  have e := pieces_glue c L h
  rw [pieces_ps] at e
  have e2 := List.append_inj' e rfl
  exact Prod.ext e2.1 (by simpa using e2.2)
theorem lines_glue {L : List (List UInt8)} (h : ∀ p ∈ L, (10 : UInt8) ∉ p) (hl : (glue 10 L).length ≤ 1048576) : lnE (glue 10 L) = 0 ∧ lnL (glue 10 L) = L := by
  have e : lnE (glue 10 L) = 0 := by unfold lnE; rw [if_neg (by omega), ps_glue h]; rfl
  refine ⟨e, ?_⟩
  unfold lnL; rw [if_pos e, ps_glue h]
/-- Words with a blank between any two. -/
def spc : List (List UInt8) → List UInt8
  | [] => []
  | [p] => p
  | p :: q :: r => p ++ 32 :: spc (q :: r)
theorem pieces_spc : ∀ W : List (List UInt8), W ≠ [] → (∀ p ∈ W, (32 : UInt8) ∉ p) → pieces 32 (spc W) = W
  | [], h, _ => absurd rfl h
  | [p], _, h => pieces_no 32 p (h p (by simp))
  | p :: q :: r, _, h => by
    rw [spc, pieces_cons 32 p _ (h p (by simp)), pieces_spc (q :: r) (by simp) (fun x hx => h x (by simp [hx]))]
theorem wd_spc {W : List (List UInt8)} (hW : W ≠ []) (h : ∀ p ∈ W, (32 : UInt8) ∉ p) (h0 : [] ∉ W) : wdOk (spc W) = true ∧ wdL (spc W) = W := by
  have e := pieces_spc W hW h
  have ok : wdOk (spc W) = true := by rw [wdOk_mem, e, decide_eq_false h0]; rfl
  exact ⟨ok, by unfold wdL; rw [ok, e]; rfl⟩

/-! Numbers, letters. -/
theorem itoa_nn {v : Int} (h : 0 ≤ v) : itoa v = decDigits v.toNat := by
  have := itoa_nonneg v.toNat
  rwa [show ((v.toNat : Nat) : Int) = v by omega] at this
theorem num_itoa {v : Int} (h0 : 0 ≤ v) (h1 : v ≤ 9999999) : numOk (itoa v) 9999999 = true ∧ numVal (itoa v) 9999999 = v := by
  have e : numOk (itoa v) 9999999 = true := by
    unfold numOk
    rw [itoa_nn h0, dec_isNum, dec_val, decide_eq_true (by omega), decide_eq_true (by omega)]; rfl
  refine ⟨e, ?_⟩
  unfold numVal
  rw [e, itoa_nn h0, dec_val, if_pos rfl]; omega
theorem itoa_mem {v : Int} (h0 : 0 ≤ v) : ∀ b ∈ itoa v, isDigit b = true := by
  rw [itoa_nn h0]; exact List.all_eq_true.1 (dec_digits _)
theorem itoa_free {v : Int} (h0 : 0 ≤ v) (c : UInt8) (hc : isDigit c = false) : c ∉ itoa v := by
  intro h; rw [itoa_mem h0 c h] at hc; cases hc
theorem itoa_ne {v : Int} (h0 : 0 ≤ v) : itoa v ≠ [] := by rw [itoa_nn h0]; exact dec_ne _
theorem itoa_short {v : Int} (h0 : 0 ≤ v) (h1 : v ≤ 9999999) : (itoa v).length ≤ 7 := by
  rw [itoa_nn h0]; exact (dec_seven _).2 (by omega)
/-- A direction's letter. -/
def letD (d : Int) : List UInt8 := if d = 0 then [69] else if d = 1 then [78] else if d = 2 then [87] else if d = 3 then [83] else []
theorem letD_cases {d : Int} (h0 : 0 ≤ d) (h3 : d ≤ 3) : d = 0 ∨ d = 1 ∨ d = 2 ∨ d = 3 := by omega
theorem dir_letD {d : Int} (h0 : 0 ≤ d) (h3 : d ≤ 3) : dirOf (letD d) = d ∧ letD d ≠ [] ∧ (32 : UInt8) ∉ letD d ∧ (10 : UInt8) ∉ letD d ∧ (letD d).length = 1 := by
  rcases letD_cases h0 h3 with rfl | rfl | rfl | rfl <;> exact ⟨by decide, by decide, by decide, by decide, by decide⟩
theorem turns_free {b : List UInt8} (h : isTurns b = true) (c : UInt8) (hc : c ≠ 76) (hd : c ≠ 82) : c ∉ b := by
  intro hm
  have := List.all_eq_true.1 h c hm
  simp only [Bool.or_eq_true, decide_eq_true_eq] at this
  rcases this with h | h
  · exact hc h
  · exact hd h

/-! An edge's line. -/
def edgWs (e : Edg) : List (List UInt8) := [itoa e.1, letD e.2.2.1, itoa e.2.1] ++ (if e.2.2.2 = [] then [] else [e.2.2.2])
def edgL (e : Edg) : List UInt8 := spc (edgWs e)
theorem edgL_eq (e : Edg) : edgL e = itoa e.1 ++ [32] ++ letD e.2.2.1 ++ [32] ++ itoa e.2.1 ++ (if e.2.2.2 = [] then [] else 32 :: e.2.2.2) := by
  unfold edgL edgWs
  by_cases h : e.2.2.2 = []
  · rw [if_pos h, if_pos h]; simp [spc]
  · rw [if_neg h, if_neg h]; simp [spc]
theorem okE_small {n : Nat} {e : Edg} (h : okE n e) (hn : n ≤ 4096) : 0 ≤ e.1 ∧ e.1 ≤ 9999999 ∧ 0 ≤ e.2.1 ∧ e.2.1 ≤ 9999999 := by
  obtain ⟨h1, h2, h3, h4, _⟩ := h; omega
theorem wd_edgL {n : Nat} {e : Edg} (h : okE n e) (hn : n ≤ 4096) : wdL (edgL e) = edgWs e := by
  obtain ⟨s1, _, s3, _⟩ := okE_small h hn
  obtain ⟨_, _, _, _, h5, h6, h7⟩ := h
  have d := dir_letD h5 h6
  refine (wd_spc (by simp [edgWs]) (fun p hp => ?_) (fun hp => ?_)).2
  · unfold edgWs at hp
    simp only [List.mem_append, List.mem_cons, List.not_mem_nil, or_false] at hp
    rcases hp with (rfl | rfl | rfl) | hp
    · exact itoa_free s1 32 (by decide)
    · exact d.2.2.1
    · exact itoa_free s3 32 (by decide)
    · split at hp
      · cases hp
      · obtain rfl := List.mem_singleton.1 hp
        exact turns_free h7 32 (by decide) (by decide)
  · unfold edgWs at hp
    simp only [List.mem_append, List.mem_cons, List.not_mem_nil, or_false] at hp
    rcases hp with (hp | hp | hp) | hp
    · exact itoa_ne s1 hp.symm
    · exact d.2.1 hp.symm
    · exact itoa_ne s3 hp.symm
    · split at hp
      · cases hp
      · rename_i hb
        exact hb (List.mem_singleton.1 hp).symm
theorem vtx_itoa {n : Nat} {v : Int} (h0 : 0 ≤ v) (h1 : v < n) (hn : n ≤ 4096) : vtxE n (itoa v) = 0 ∧ numVal (itoa v) 9999999 = v := by
  have h := num_itoa h0 (by omega : v ≤ 9999999)
  refine ⟨?_, h.2⟩
  unfold vtxE
  rw [if_pos h.1, h.2, if_pos h1]
theorem edg_back {n : Nat} {e : Edg} (h : okE n e) (hn : n ≤ 4096) : edgE n (edgL e) = 0 ∧ edgV n (edgL e) = e := by
  have hw := wd_edgL h hn
  obtain ⟨h1, h2, h3, h4, h5, h6, h7⟩ := h
  have d := dir_letD h5 h6
  have v1 := vtx_itoa h1 h2 hn
  have v2 := vtx_itoa h3 h4 hn
  have hz : ∀ t, isTurns t = true → edgW n (itoa e.1) (letD e.2.2.1) (itoa e.2.1) t = 0 := by
    intro t ht
    unfold edgW
    rw [v1.1, v2.1, d.1, ht]
    simp; omega
  have hx : ∀ t, isTurns t = true → edgX n (itoa e.1) (letD e.2.2.1) (itoa e.2.1) t = (e.1, e.2.1, e.2.2.1, t) := by
    intro t ht
    unfold edgX
    rw [if_pos (hz t ht), v1.2, v2.2, d.1]
  unfold edgE edgV
  rw [hw]
  unfold edgWs
  by_cases hb : e.2.2.2 = []
  · rw [if_pos hb]
    simp only [List.append_nil]
    refine ⟨hz [] rfl, ?_⟩
    rw [hx [] rfl, ← hb]
  · rw [if_neg hb]
    simp only [List.cons_append, List.nil_append]
    exact ⟨hz _ h7, hx _ h7⟩
theorem edgL_end {n : Nat} {e : Edg} (h : okE n e) (hn : n ≤ 4096) : edgL e ≠ endW := by
  intro hc
  have hw := wd_edgL h hn
  rw [hc] at hw
  have e2 : wdL endW = [endW] := by decide +kernel
  rw [e2] at hw
  have := congrArg List.length hw
  unfold edgWs at this
  simp at this
theorem mem_spc (c : UInt8) (hc : c ≠ 32) : ∀ W : List (List UInt8), (∀ p ∈ W, c ∉ p) → c ∉ spc W
  | [], _ => by simp [spc]
  | [p], h => h p (by simp)
  | p :: q :: r, h => by
    have ih := mem_spc c hc (q :: r) (fun x hx => h x (by simp [hx]))
    simp only [spc, List.mem_append, List.mem_cons, not_or]
    exact ⟨h p (by simp), hc, ih⟩
theorem edgL_free {n : Nat} {e : Edg} (h : okE n e) (hn : n ≤ 4096) : (10 : UInt8) ∉ edgL e := by
  obtain ⟨s1, _, s3, _⟩ := okE_small h hn
  obtain ⟨_, _, _, _, h5, h6, h7⟩ := h
  have d := dir_letD h5 h6
  refine mem_spc 10 (by decide) _ (fun p hp => ?_)
  unfold edgWs at hp
  simp only [List.mem_append, List.mem_cons, List.not_mem_nil, or_false] at hp
  rcases hp with (rfl | rfl | rfl) | hp
  · exact itoa_free s1 10 (by decide)
  · exact d.2.2.2.1
  · exact itoa_free s3 10 (by decide)
  · split at hp
    · cases hp
    · obtain rfl := List.mem_singleton.1 hp
      exact turns_free h7 10 (by decide) (by decide)

/-! The first line. -/
def vtxL (B : List Bool) : List UInt8 := if B = [] then [45] else B.map fun b => if b = true then 98 else 112
def fstL (B : List Bool) : List UInt8 := spc [shapeW, vtxL B]
theorem vtxL_ne (B : List Bool) : vtxL B ≠ [] := by
  unfold vtxL; split
  · simp
  · rename_i h; simpa using h
theorem vtxL_mem (B : List Bool) : ∀ c ∈ vtxL B, c = 45 ∨ c = 98 ∨ c = 112 := by
  intro c hc
  unfold vtxL at hc
  split at hc
  · exact Or.inl (List.mem_singleton.1 hc)
  · obtain ⟨b, _, rfl⟩ := List.mem_map.1 hc
    split
    · exact Or.inr (Or.inl rfl)
    · exact Or.inr (Or.inr rfl)
theorem vtxL_free (B : List Bool) (c : UInt8) (h1 : c ≠ 45) (h2 : c ≠ 98) (h3 : c ≠ 112) : c ∉ vtxL B := by
  intro h; rcases vtxL_mem B c h with h | h | h
  · exact h1 h
  · exact h2 h
  · exact h3 h
theorem wd_fstL (B : List Bool) : wdL (fstL B) = [shapeW, vtxL B] := by
  refine (wd_spc (by simp) (fun p hp => ?_) (fun hp => ?_)).2
  · simp only [List.mem_cons, List.not_mem_nil, or_false] at hp
    rcases hp with rfl | rfl
    · decide
    · exact vtxL_free B 32 (by decide) (by decide) (by decide)
  · simp only [List.mem_cons, List.not_mem_nil, or_false] at hp
    rcases hp with hp | hp
    · exact absurd hp (by decide)
    · exact vtxL_ne B hp.symm
theorem fstL_free (B : List Bool) : (10 : UInt8) ∉ fstL B := by
  refine mem_spc 10 (by decide) _ (fun p hp => ?_)
  simp only [List.mem_cons, List.not_mem_nil, or_false] at hp
  rcases hp with rfl | rfl
  · decide
  · exact vtxL_free B 10 (by decide) (by decide) (by decide)
theorem map_box (B : List Bool) : boxesOf (B.map fun b => if b = true then (98 : UInt8) else 112) = B := by
  unfold boxesOf
  rw [List.map_map]
  conv => rhs; rw [← List.map_id B]
  refine List.map_congr_left fun b _ => ?_
  cases b <;> decide
theorem all_box (B : List Bool) : isBox (B.map fun b => if b = true then (98 : UInt8) else 112) = true := by
  unfold isBox
  rw [List.all_map, List.all_eq_true]
  intro b _
  cases b <;> decide
theorem fstW_vtxL (B : List Bool) : fstW (vtxL B) = (if 4096 < B.length then 6 else 0) ∧ fstV (vtxL B) = B := by
  by_cases h0 : B = []
  · subst h0; exact ⟨rfl, rfl⟩
  · have e : vtxL B = B.map fun b => if b = true then (98 : UInt8) else 112 := by unfold vtxL; rw [if_neg h0]
    have hne : vtxL B ≠ [45] := by
      rw [e]
      intro hc
      cases B with
      | nil => exact h0 rfl
      | cons b t =>
        simp only [List.map_cons, List.cons.injEq] at hc
        have := hc.1
        split at this <;> exact absurd this (by decide)
    unfold fstW fstV
    rw [if_neg hne, if_neg hne, e, if_pos (all_box B), map_box, List.length_map]
    exact ⟨rfl, rfl⟩
theorem fst_back {B : List Bool} (h : B.length ≤ 4096) : fstE (fstL B) = 0 ∧ fstB (fstL B) = B := by
  have hw := wd_fstL B
  have hf := fstW_vtxL B
  rw [if_neg (by omega)] at hf
  unfold fstE fstB
  rw [hw]
  simp only []
  rw [if_pos trivial, if_pos ⟨trivial, hf.1⟩]
  exact hf
theorem fst_many {B : List Bool} (h : 4096 < B.length) : fstE (fstL B) = 6 := by
  have hw := wd_fstL B
  have hf := fstW_vtxL B
  rw [if_pos h] at hf
  unfold fstE
  rw [hw]
  simp only []
  rw [if_pos trivial]
  exact hf.1
/-- A first line with more words. -/
theorem fst_more (B : List Bool) (t : List UInt8) : fstE (fstL B ++ 32 :: t) = 4 := by
  have hp : pieces 32 (fstL B ++ 32 :: t) = [shapeW, vtxL B] ++ pieces 32 t := by
    have h := wd_fstL B
    rw [pieces_both]
    congr 1
    refine pieces_spc _ (by simp) (fun p hp => ?_)
    simp only [List.mem_cons, List.not_mem_nil, or_false] at hp
    rcases hp with rfl | rfl
    · decide
    · exact vtxL_free B 32 (by decide) (by decide) (by decide)
  unfold fstE wdL
  cases wdOk (fstL B ++ 32 :: t) with
  | false => rfl
  | true =>
    rw [hp]
    simp [pieces]

/-! A whole text. -/
def linL (B : List Bool) (E : List Edg) : List (List UInt8) := fstL B :: E.map edgL ++ [endW]
def printS (B : List Bool) (E : List Edg) : List UInt8 := glue 10 (linL B E)
theorem goE_edges {B : List Bool} (hB : B.length ≤ 4096) : ∀ (E : List Edg) (T : List (List UInt8)) (i : Nat) (E0 : List Edg) (b0 : Nat), (E0 ++ E).length ≤ 4096 → b0 + bendsOf E ≤ 4096 → (∀ e ∈ E, okE B.length e) →
    goE B.length (E.map edgL ++ T) i E0 b0 = goE B.length T (i + E.length) (E0 ++ E) (b0 + bendsOf E)
  | [], T, i, E0, b0, _, _, _ => by simp [bendsOf]
  | e :: E, T, i, E0, b0, h1, h2, h3 => by
    have he := h3 e (by simp)
    have hk := edg_back he hB
    have hn := edgL_end he hB
    have hbe : bendsOf (e :: E) = e.2.2.2.length + bendsOf E := by simp [bendsOf]
    rw [List.map_cons, List.cons_append, goE, if_neg hn, if_neg (by rw [hk.1]; simp), hk.2]
    rw [if_neg (by rw [List.length_append, List.length_cons] at h1; omega)]
    rw [goE_edges hB E T (i + 1) (E0 ++ [e]) _ (by simpa using h1) (by omega) (fun x hx => h3 x (by simp [hx]))]
    rw [List.length_cons, hbe]
    congr 1
    · omega
    · simp
    · omega
theorem lin_free {B : List Bool} {E : List Edg} (hM : May B E) : ∀ p ∈ fstL B :: E.map edgL, (10 : UInt8) ∉ p := by
  intro p hp
  rcases List.mem_cons.1 hp with rfl | hp
  · exact fstL_free B
  · obtain ⟨e, he, rfl⟩ := List.mem_map.1 hp
    exact edgL_free (hM.ok e he) hM.vs
/-- What follows the edges' lines decides. -/
theorem par_lines {B : List Bool} {E : List Edg} (hM : May B E) (T : List (List UInt8)) (hT : ∀ p ∈ T, (10 : UInt8) ∉ p) (hl : (glue 10 (fstL B :: E.map edgL ++ T)).length ≤ 1048576) :
    par (glue 10 (fstL B :: E.map edgL ++ T)) = ((goE B.length T (1 + E.length) E (bendsOf E)).1, (goE B.length T (1 + E.length) E (bendsOf E)).2.1, if (goE B.length T (1 + E.length) E (bendsOf E)).1 = 0 then B else [], (goE B.length T (1 + E.length) E (bendsOf E)).2.2) := by
  have hL : ∀ p ∈ fstL B :: E.map edgL ++ T, (10 : UInt8) ∉ p := by
    intro p hp
    rcases List.mem_append.1 hp with hp | hp
    · exact lin_free hM p hp
    · exact hT p hp
  obtain ⟨e1, e2⟩ := lines_glue hL hl
  have f := fst_back hM.vs
  have g := goE_edges hM.vs E T 1 [] 0 (by simpa using hM.es) (by have := hM.bs; omega) hM.ok
  simp only [List.nil_append, Nat.zero_add] at g
  unfold par
  rw [e1, e2, if_neg (by simp)]
  simp only [List.cons_append]
  rw [f.1, if_neg (by simp), f.2, g]
theorem par_print {B : List Bool} {E : List Edg} (hM : May B E) (hl : (printS B E).length ≤ 1048576) : par (printS B E) = (0, 0, B, E) := by
  have h := par_lines hM [endW] (by simp; decide) hl
  unfold printS linL
  rw [h]
  simp [goE]
theorem par_short {B : List Bool} {E : List Edg} (hM : May B E) (hl : (glue 10 (fstL B :: E.map edgL)).length ≤ 1048576) : (par (glue 10 (fstL B :: E.map edgL))).1 = 4 ∧ (par (glue 10 (fstL B :: E.map edgL))).2.1 = E.length + 2 := by
  have h := par_lines hM [] (by simp) (by simpa using hl)
  rw [List.append_nil] at h
  rw [h]
  simp only [goE]
  exact ⟨trivial, by omega⟩
theorem par_twice {B : List Bool} {E : List Edg} (hM : May B E) (hl : (printS B E ++ glue 10 [endW]).length ≤ 1048576) : (par (printS B E ++ glue 10 [endW])).1 = 4 ∧ (par (printS B E ++ glue 10 [endW])).2.1 = E.length + 3 := by
  have e : printS B E ++ glue 10 [endW] = glue 10 (fstL B :: E.map edgL ++ [endW, endW]) := by
    unfold printS linL
    rw [← glue_append, List.append_assoc]; rfl
  rw [e] at hl ⊢
  rw [par_lines hM [endW, endW] (by simp; decide) hl]
  simp only [goE]
  refine ⟨rfl, ?_⟩
  simp; omega
/-- Two lines turned into one. -/
theorem par_joined {B : List Bool} {E : List Edg} (hM : May B E) (hl : (printS B E).length ≤ 1048576) :
    (par (fstL B ++ 32 :: glue 10 (E.map edgL ++ [endW]))).1 = 4 := by
  obtain ⟨p, T, hT⟩ : ∃ p T, E.map edgL ++ [endW] = p :: T := by
    cases E with
    | nil => exact ⟨_, _, rfl⟩
    | cons e E => exact ⟨_, _, rfl⟩
  have hfree : ∀ q ∈ p :: T, (10 : UInt8) ∉ q := by
    rw [← hT]
    intro q hq
    rcases List.mem_append.1 hq with hq | hq
    · exact lin_free hM q (by simp [hq])
    · obtain rfl := List.mem_singleton.1 hq; decide
  have hlen : (fstL B ++ 32 :: glue 10 (E.map edgL ++ [endW])).length = (printS B E).length := by
    unfold printS linL
    rw [List.cons_append, glue]; simp
  rw [← hlen] at hl
  rw [hT] at hl ⊢
  have e : fstL B ++ 32 :: glue 10 (p :: T) = glue 10 ((fstL B ++ 32 :: p) :: T) := by simp [glue]
  rw [e] at hl ⊢
  obtain ⟨e1, e2⟩ := lines_glue (L := (fstL B ++ 32 :: p) :: T) (fun q hq => by
    rcases List.mem_cons.1 hq with rfl | hq
    · simp only [List.mem_append, List.mem_cons, not_or]
      exact ⟨fstL_free B, by decide, hfree p (by simp)⟩
    · exact hfree q (by simp [hq])) hl
  unfold par
  rw [e1, e2, if_neg (by simp)]
  simp only []
  rw [fst_more, if_pos (by decide)]
theorem edgL_len {n : Nat} {e : Edg} (h : okE n e) (hn : n ≤ 4096) : (edgL e).length ≤ 18 + e.2.2.2.length := by
  obtain ⟨s1, s2, s3, s4⟩ := okE_small h hn
  obtain ⟨_, _, _, _, h5, h6, _⟩ := h
  have d := (dir_letD h5 h6).2.2.2.2
  have i1 := itoa_short s1 s2
  have i2 := itoa_short s3 s4
  rw [edgL_eq]
  simp only [List.length_append, List.length_cons, List.length_nil, d]
  split
  · simp; omega
  · simp; omega
theorem glue_len (c : UInt8) : ∀ L : List (List UInt8), (glue c L).length = (L.map fun p => p.length + 1).sum
  | [] => rfl
  | p :: L => by
    rw [glue, List.length_append, List.length_cons, glue_len c L, List.map_cons, List.sum_cons]; omega
theorem edges_len {n : Nat} (hn : n ≤ 4096) : ∀ E : List Edg, (∀ e ∈ E, okE n e) → (glue 10 (E.map edgL)).length ≤ 19 * E.length + bendsOf E
  | [], _ => by simp [glue, bendsOf]
  | e :: E, h => by
    have ih := edges_len hn E (fun x hx => h x (by simp [hx]))
    have h1 := edgL_len (h e (by simp)) hn
    have hbe : bendsOf (e :: E) = e.2.2.2.length + bendsOf E := by simp [bendsOf]
    rw [List.map_cons, glue, List.length_append, List.length_cons, List.length_cons, hbe]
    omega
theorem fstL_len (B : List Bool) : (fstL B).length ≤ 7 + B.length := by
  have h : (vtxL B).length ≤ 1 + B.length := by
    unfold vtxL; split
    · simp
    · simp
  unfold fstL
  simp [spc, shapeW]
  omega
theorem print_len {B : List Bool} {E : List Edg} (hM : May B E) : (printS B E).length ≤ 90000 := by
  have h1 := edges_len hM.vs E hM.ok
  have h2 := fstL_len B
  have := hM.vs
  have := hM.es
  have := hM.bs
  unfold printS linL
  rw [glue_append, List.length_append, glue, List.length_append, List.length_cons]
  have e : (glue 10 [endW]).length = 4 := by decide
  omega
end Go.Proofs.YtgedcalplfnjmaaDoor.ParM
