/-
  What a text is parsed to is printed as that text; an edge from its other end; texts of shapes that aren't the same; no program stands here. Conditions: none.
-/
import Derived.Test.YtgedcalplfnjmaaDoorParN
namespace Go.Proofs.YtgedcalplfnjmaaDoor.ParM
open Go.Lib Go.Proofs.YtgedcalplfnjmaaDoor.LexM

/-! Printed again. -/
theorem glue_lnL {l : List UInt8} (h : lnE l = 0) : glue 10 (lnL l) = l := by
  have h2 : (ps 10 l).2 = [] := by
    unfold lnE at h
    split at h
    · cases h
    · split at h
      · rename_i h3; exact List.isEmpty_iff.1 h3
      · cases h
  unfold lnL
  rw [if_pos h]
  have := glue_ps 10 l
  rw [h2, List.append_nil] at this
  exact this
theorem spc_pieces : ∀ l : List UInt8, spc (pieces 32 l) = l
  | [] => rfl
  | b :: t => by
    have ih := spc_pieces t
    by_cases h : b = 32
    · subst h
      have e : pieces 32 (32 :: t) = [] :: pieces 32 t := by simp [pieces, pr]
      rw [e]
      have e2 : pieces 32 t = (pr 32 t).1 :: (pr 32 t).2 := rfl
      rw [e2] at ih ⊢
      rw [spc, ih]; rfl
    · have e : pieces 32 (b :: t) = (b :: (pr 32 t).1) :: (pr 32 t).2 := by simp [pieces, pr, h]
      have e2 : pieces 32 t = (pr 32 t).1 :: (pr 32 t).2 := rfl
      rw [e]
      rw [e2] at ih
      generalize (pr 32 t).2 = r at *
      cases r with
      | nil =>
        simp only [spc] at ih ⊢
        rw [ih]
      | cons q r =>
        simp only [spc] at ih ⊢
        rw [List.cons_append, ih]
/-- A line of words: they are put together again, none is empty. -/
theorem spc_wdL {l : List UInt8} (h : wdL l ≠ []) : spc (wdL l) = l ∧ [] ∉ wdL l := by
  unfold wdL at h ⊢
  cases hk : wdOk l with
  | false => rw [hk] at h; exact absurd rfl h
  | true =>
    rw [hk] at h
    rw [if_pos rfl]
    refine ⟨spc_pieces l, ?_⟩
    rw [wdOk_mem] at hk
    simpa using hk
theorem itoa_numVal {p : List UInt8} (h : numOk p 9999999 = true) : itoa (numVal p 9999999) = p := by
  unfold numVal
  rw [h, if_pos rfl, itoa_nonneg]
  unfold numOk isNum at h
  simp only [Bool.and_eq_true] at h
  exact canon_dec p h.1.1
theorem vtx_back {n : Nat} {p : List UInt8} (h : vtxE n p = 0) : itoa (numVal p 9999999) = p := by
  unfold vtxE at h
  split at h
  · rename_i h1; exact itoa_numVal h1
  · cases h
theorem letD_dirOf {d : List UInt8} (h : dirOf d ≠ -1) : letD (dirOf d) = d := by
  unfold dirOf at h ⊢
  split
  · rename_i e; rw [e]; rfl
  · split
    · rename_i e; rw [e]; rfl
    · split
      · rename_i e; rw [e]; rfl
      · split
        · rename_i e; rw [e]; rfl
        · rename_i h1 h2 h3 h4
          rw [if_neg h1, if_neg h2, if_neg h3, if_neg h4] at h
          exact absurd rfl h
theorem edgW_zero {n : Nat} {a d b t : List UInt8} (h : edgW n a d b t = 0) : vtxE n a = 0 ∧ dirOf d ≠ -1 ∧ vtxE n b = 0 ∧ isTurns t = true := by
  unfold edgW at h
  split at h
  · rename_i h1; exact absurd h h1
  · rename_i h1
    split at h
    · cases h
    · rename_i h2
      split at h
      · rename_i h3; exact absurd h h3
      · rename_i h3
        split at h
        · rename_i h4; exact ⟨by omega, h2, by omega, h4⟩
        · cases h
theorem edg_line {n : Nat} {l : List UInt8} (h : edgE n l = 0) : edgL (edgV n l) = l := by
  have hne : wdL l ≠ [] := by
    intro h0
    unfold edgE at h
    rw [h0] at h
    cases h
  obtain ⟨hs, h0⟩ := spc_wdL hne
  unfold edgE at h
  unfold edgV
  split at h
  · rename_i a d b hw
    obtain ⟨v1, v2, v3, _⟩ := edgW_zero h
    rw [hw] at hs
    unfold edgX
    rw [if_pos h]
    unfold edgL edgWs
    simp only
    rw [vtx_back v1, vtx_back v3, letD_dirOf v2]
    simpa using hs
  · rename_i a d b t hw
    obtain ⟨v1, v2, v3, _⟩ := edgW_zero h
    rw [hw] at hs h0
    have ht : t ≠ [] := fun e => h0 (by rw [e]; simp)
    unfold edgX
    rw [if_pos h]
    unfold edgL edgWs
    simp only
    rw [vtx_back v1, vtx_back v3, letD_dirOf v2, if_neg ht]
    exact hs
  · cases h
theorem map_boxesOf : ∀ p : List UInt8, isBox p = true → (boxesOf p).map (fun b => if b = true then (98 : UInt8) else 112) = p
  | [], _ => rfl
  | b :: t, h => by
    unfold isBox at h
    rw [List.all_cons, Bool.and_eq_true] at h
    have ih := map_boxesOf t h.2
    unfold boxesOf at ih ⊢
    rw [List.map_cons, List.map_cons, ih]
    congr 1
    have h1 := h.1
    simp only [Bool.or_eq_true, decide_eq_true_eq] at h1
    rcases h1 with rfl | rfl
    · decide
    · decide
theorem fst_line {l : List UInt8} (h : fstE l = 0) : fstL (fstB l) = l := by
  have hne : wdL l ≠ [] := by
    intro h0
    unfold fstE at h
    rw [h0] at h
    cases h
  obtain ⟨hs, h0⟩ := spc_wdL hne
  unfold fstE at h
  unfold fstB
  split at h
  · rename_i a p hw
    rw [hw] at hs h0
    split at h
    · rename_i ha
      subst ha
      rw [if_pos ⟨rfl, h⟩]
      have hp : p ≠ [] := fun e => h0 (by rw [e]; simp)
      have hv : vtxL (fstV p) = p := by
        unfold fstW at h
        unfold fstV
        by_cases h1 : p = [45]
        · rw [if_pos h1, h1]; rfl
        · rw [if_neg h1] at h ⊢
          split at h
          · rename_i hb
            have hb0 : boxesOf p ≠ [] := by unfold boxesOf; simpa using hp
            unfold vtxL
            rw [if_neg hb0]
            exact map_boxesOf p hb
          · cases h
      unfold fstL
      rw [hv]
      exact hs
    · cases h
  · cases h
theorem goE_lines (n : Nat) : ∀ (L : List (List UInt8)) (i : Nat) (E : List Edg) (b : Nat), (goE n L i E b).1 = 0 → ∃ X : List Edg, (goE n L i E b).2.2 = E ++ X ∧ L = X.map edgL ++ [endW]
  | [], i, E, b, h => by unfold goE at h; cases h
  | l :: ls, i, E, b, h => by
    unfold goE at h ⊢
    split
    · rename_i h1
      rw [if_pos h1] at h
      split
      · rename_i h2
        exact ⟨[], by simp, by simp [h1, h2]⟩
      · rename_i h2; rw [if_neg h2] at h; cases h
    · rename_i h1
      rw [if_neg h1] at h
      split
      · rename_i h2; rw [if_pos h2] at h; exact absurd h h2
      · rename_i h2
        rw [if_neg h2] at h
        split
        · rename_i h3; rw [if_pos h3] at h; cases h
        · rename_i h3
          rw [if_neg h3] at h
          obtain ⟨X, e1, e2⟩ := goE_lines n ls _ _ _ h
          have hl := edg_line (n := n) (l := l) (by omega)
          exact ⟨edgV n l :: X, by rw [e1]; simp, by rw [List.map_cons, hl, e2]; rfl⟩
/-- What a text is parsed to is printed as that text. -/
theorem print_par {s : List UInt8} (h : (par s).1 = 0) : printS (par s).2.2.1 (par s).2.2.2 = s := by
  unfold par at h ⊢
  split
  · rename_i h0; rw [if_pos h0] at h; exact absurd h h0
  · rename_i h0
    rw [if_neg h0] at h
    have hz : lnE s = 0 := by omega
    split
    · rename_i hl; rw [hl] at h; cases h
    · rename_i l ls hl
      rw [hl] at h
      simp only [] at h
      split
      · rename_i h1; rw [if_pos h1] at h; exact absurd h h1
      · rename_i h1
        rw [if_neg h1] at h
        simp only [] at h ⊢
        rw [if_pos h]
        obtain ⟨X, e1, e2⟩ := goE_lines _ ls 1 [] 0 h
        rw [e1, List.nil_append]
        have hf := fst_line (l := l) (by omega)
        have hg := glue_lnL hz
        rw [hl, e2] at hg
        unfold printS linL
        rw [hf]
        exact hg

/-! An edge from its other end. -/
/-- What a bend adds to a direction. -/
def addT (b : UInt8) : Int := if b = 76 then 1 else 3
def sumT (l : List UInt8) : Int := (l.map addT).sum
def flipT (b : UInt8) : UInt8 := if b = 76 then 82 else 76
def backT (l : List UInt8) : List UInt8 := (l.map flipT).reverse
/-- The direction in which an edge comes to its end. -/
def lastT (d : Int) (l : List UInt8) : Int := (d + sumT l) % 4
def backE (e : Edg) : Edg := (e.2.1, e.1, (lastT e.2.2.1 e.2.2.2 + 2) % 4, backT e.2.2.2)
theorem sumT_snoc (l : List UInt8) (b : UInt8) : sumT (l ++ [b]) = sumT l + addT b := by simp [sumT, List.sum_append]
theorem backT_turns (l : List UInt8) : isTurns (backT l) = true := by
  unfold isTurns backT
  rw [List.all_reverse, List.all_map, List.all_eq_true]
  intro b _
  unfold flipT
  by_cases h : b = 76
  · simp [h]
  · simp [h]
theorem backT_len (l : List UInt8) : (backT l).length = l.length := by simp [backT]
theorem backT_back : ∀ l : List UInt8, isTurns l = true → backT (backT l) = l := by
  intro l h
  unfold backT
  rw [List.map_reverse, List.reverse_reverse, List.map_map]
  conv => rhs; rw [← List.map_id l]
  refine List.map_congr_left fun b hb => ?_
  have := List.all_eq_true.1 h b hb
  simp only [Bool.or_eq_true, decide_eq_true_eq] at this
  rcases this with rfl | rfl <;> decide
theorem sumT_map : ∀ l : List UInt8, isTurns l = true → sumT (l.map flipT) = 4 * (l.length : Int) - sumT l
  | [], _ => rfl
  | b :: t, h => by
    unfold isTurns at h
    rw [List.all_cons, Bool.and_eq_true] at h
    have ih := sumT_map t h.2
    have e : ∀ (x : UInt8) (m : List UInt8), sumT (x :: m) = addT x + sumT m := fun x m => by simp [sumT]
    have hb : addT (flipT b) = 4 - addT b := by
      have h1 := h.1
      simp only [Bool.or_eq_true, decide_eq_true_eq] at h1
      rcases h1 with rfl | rfl <;> decide
    rw [List.map_cons, e, e, ih, hb, List.length_cons]
    omega
theorem sumT_rev (l : List UInt8) : sumT l.reverse = sumT l := by
  unfold sumT
  rw [List.map_reverse]
  exact List.sum_reverse _
theorem sumT_back {l : List UInt8} (h : isTurns l = true) : sumT (backT l) = 4 * (l.length : Int) - sumT l := by
  unfold backT
  rw [sumT_rev, sumT_map l h]
theorem back_back {e : Edg} (h0 : 0 ≤ e.2.2.1) (h3 : e.2.2.1 ≤ 3) (h : isTurns e.2.2.2 = true) : backE (backE e) = e := by
  obtain ⟨f, t, d, l⟩ := e
  simp only at h0 h3 h
  unfold backE
  simp only
  rw [backT_back l h]
  have hs := sumT_back h
  refine Prod.ext rfl (Prod.ext rfl (Prod.ext ?_ rfl))
  unfold lastT
  rw [hs]
  show ((((d + sumT l) % 4 + 2) % 4 + (4 * (l.length : Int) - sumT l)) % 4 + 2) % 4 = d
  omega

/-! Texts of two shapes. -/
theorem print_inj {B C : List Bool} {E F : List Edg} (hM : May B E) (hN : May C F) (h : printS B E = printS C F) : B = C ∧ E = F := by
  have h1 := par_print hM (Nat.le_trans (print_len hM) (by decide))
  have h2 := par_print hN (Nat.le_trans (print_len hN) (by decide))
  rw [h, h2] at h1
  simp only [Prod.mk.injEq] at h1
  exact ⟨h1.2.2.1.symm, h1.2.2.2.symm⟩
theorem print_count {B : List Bool} {E : List Edg} (hM : May B E) : (printS B E).count 10 = E.length + 2 := by
  have h := lin_free hM
  have g : ∀ L : List (List UInt8), (∀ p ∈ L, (10 : UInt8) ∉ p) → (glue 10 L).count 10 = L.length := by
    intro L
    induction L with
    | nil => intro _; rfl
    | cons p L ih =>
      intro hp
      rw [glue, List.count_append, List.count_cons_self, ih (fun q hq => hp q (by simp [hq])), List.count_eq_zero.2 (hp p (by simp)), List.length_cons]; omega
  unfold printS linL
  rw [g _ (fun p hp => by
    rcases List.mem_append.1 hp with hp | hp
    · exact h p hp
    · obtain rfl := List.mem_singleton.1 hp; decide)]
  simp
/-- A text of a shape: only bytes below 128. -/
theorem print_ascii {B : List Bool} {E : List Edg} (hM : May B E) : ∀ b ∈ printS B E, b.toNat < 128 := by
  have g : ∀ L : List (List UInt8), (∀ p ∈ L, ∀ b ∈ p, b.toNat < 128) → ∀ b ∈ glue 10 L, b.toNat < 128 := by
    intro L
    induction L with
    | nil => intro _ b hb; cases hb
    | cons p L ih =>
      intro hp b hb
      rw [glue] at hb
      rcases List.mem_append.1 hb with hb | hb
      · exact hp p (by simp) b hb
      · rcases List.mem_cons.1 hb with rfl | hb
        · decide
        · exact ih (fun q hq => hp q (by simp [hq])) b hb
  have s : ∀ W : List (List UInt8), (∀ p ∈ W, ∀ b ∈ p, b.toNat < 128) → ∀ b ∈ spc W, b.toNat < 128 := by
    intro W
    induction W with
    | nil => intro _ b hb; cases hb
    | cons p W ih =>
      intro hp b hb
      cases W with
      | nil => exact hp p (by simp) b hb
      | cons q r =>
        rw [spc] at hb
        rcases List.mem_append.1 hb with hb | hb
        · exact hp p (by simp) b hb
        · rcases List.mem_cons.1 hb with rfl | hb
          · decide
          · exact ih (fun q hq => hp q (by simp [hq])) b hb
  have dg : ∀ b : UInt8, isDigit b = true → b.toNat < 128 := fun b h => by
    unfold isDigit at h
    simp only [Bool.and_eq_true, decide_eq_true_eq] at h
    omega
  unfold printS linL
  refine g _ (fun p hp => ?_)
  rcases List.mem_append.1 hp with hp | hp
  · rcases List.mem_cons.1 hp with rfl | hp
    · refine s _ (fun p hp => ?_)
      simp only [List.mem_cons, List.not_mem_nil, or_false] at hp
      rcases hp with rfl | rfl
      · decide
      · intro b hb
        rcases vtxL_mem B b hb with rfl | rfl | rfl <;> decide
    · obtain ⟨e, he, rfl⟩ := List.mem_map.1 hp
      have ok := hM.ok e he
      obtain ⟨s1, _, s3, _⟩ := okE_small ok hM.vs
      obtain ⟨_, _, _, _, h5, h6, h7⟩ := ok
      refine s _ (fun p hp => ?_)
      unfold edgWs at hp
      simp only [List.mem_append, List.mem_cons, List.not_mem_nil, or_false] at hp
      rcases hp with (rfl | rfl | rfl) | hp
      · exact fun b hb => dg b (itoa_mem s1 b hb)
      · rcases letD_cases h5 h6 with e | e | e | e <;> (rw [e]; decide)
      · exact fun b hb => dg b (itoa_mem s3 b hb)
      · split at hp
        · cases hp
        · obtain rfl := List.mem_singleton.1 hp
          intro b hb
          have := List.all_eq_true.1 h7 b hb
          simp only [Bool.or_eq_true, decide_eq_true_eq] at this
          rcases this with rfl | rfl <;> decide
  · obtain rfl := List.mem_singleton.1 hp; decide
end Go.Proofs.YtgedcalplfnjmaaDoor.ParM
