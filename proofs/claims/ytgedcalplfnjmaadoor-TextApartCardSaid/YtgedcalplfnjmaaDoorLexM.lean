/-
  Pieces between separators, digits and what they say, over lists of bytes; no program stands here. Conditions: none.
-/
import Derived.Lib.SplitLaws
import Derived.Lib.ItoaNum
import Derived.Lib.AtoiTie
namespace Go.Proofs.YtgedcalplfnjmaaDoor.LexM
open Go.Lib

theorem snoc_ind {α : Type} {p : List α → Prop} (h0 : p []) (h1 : ∀ t b, p t → p (t ++ [b])) (l : List α) : p l := by
  have all : ∀ m : List α, p m.reverse := by
    intro m
    induction m with
    | nil => exact h0
    | cons b t ih => rw [List.reverse_cons]; exact h1 _ _ ih
  have := all l.reverse
  rwa [List.reverse_reverse] at this

/-! Pieces. -/
def pr (c : UInt8) : List UInt8 → List UInt8 × List (List UInt8)
  | [] => ([], [])
  | b :: t => if b = c then ([], (pr c t).1 :: (pr c t).2) else (b :: (pr c t).1, (pr c t).2)
/-- The pieces between all bytes c. -/
def pieces (c : UInt8) (s : List UInt8) : List (List UInt8) := (pr c s).1 :: (pr c s).2

theorem index_ne (b c : UInt8) (l : List UInt8) (h : b ≠ c) : index (b :: l) [c] = if index l [c] == -1 then -1 else index l [c] + 1 := by
  have hp : ([c] : List UInt8).isPrefixOf (b :: l) = false := by simp [List.isPrefixOf, Ne.symm h]
  rw [index, hp]; simp
theorem index_eq (c : UInt8) (l : List UInt8) : index (c :: l) [c] = 0 := by rw [index]; simp [List.isPrefixOf]
theorem index_none (c : UInt8) : ∀ l : List UInt8, l.count c = 0 ↔ index l [c] = -1
  | [] => by simp [index]
  | b :: l => by
    by_cases h : b = c
    · subst h; rw [index_eq]; simp
    · rw [index_ne b c l h, List.count_cons_of_ne (by simpa using h), index_none c l]
      have := index_ge l [c]
      constructor
      · intro e; rw [e]; rfl
      · intro e
        by_cases hm : index l [c] = -1
        · exact hm
        · rw [if_neg (fun x => hm (beq_iff_eq.1 x))] at e; omega

theorem split_pieces (c : UInt8) : ∀ s : List UInt8, splitK [c] 0 (s.count c) s = pieces c s
  | [] => rfl
  | b :: t => by
    have ih := split_pieces c t
    by_cases h : b = c
    · subst h
      rw [List.count_cons_self, splitK, index_eq]
      simp [pieces, pr] at ih ⊢
      exact ih
    · rw [List.count_cons_of_ne (by simpa using h)]
      have hp : pieces c (b :: t) = (b :: (pr c t).1) :: (pr c t).2 := by simp [pieces, pr, h]
      rw [hp]
      cases hk : t.count c with
      | zero =>
        rw [hk] at ih
        simp only [splitK, pieces, List.cons.injEq] at ih ⊢
        obtain ⟨i1, i2⟩ := ih
        rw [← i1, ← i2]
        simp
      | succ k =>
        rw [hk] at ih
        have hn : ¬ index t [c] = -1 := fun e => by rw [← index_none] at e; omega
        have hge := index_ge t [c]
        obtain ⟨j, hj⟩ : ∃ j : Nat, index t [c] = j := ⟨(index t [c]).toNat, by omega⟩
        have hx : index (b :: t) [c] = ((j + 1 : Nat) : Int) := by rw [index_ne b c t h, if_neg (fun e => hn (beq_iff_eq.1 e)), hj]; omega
        rw [splitK, hj, if_neg (by simp)] at ih
        rw [splitK, hx, if_neg (by simp; omega)]
        simp only [pieces, List.cons.injEq] at ih
        obtain ⟨i1, i2⟩ := ih
        simp only [Int.toNat_natCast, Nat.add_zero, List.length_singleton, List.take_succ_cons, List.drop_succ_cons] at i1 i2 ⊢
        rw [i1, i2]

/-- The pieces as they are found byte by byte: those that are done, and what there is of the last one. -/
def ps (c : UInt8) (t : List UInt8) : List (List UInt8) × List UInt8 :=
  t.foldl (fun a b => if b = c then (a.1 ++ [a.2], []) else (a.1, a.2 ++ [b])) ([], [])
theorem ps_from (c : UInt8) : ∀ (s : List UInt8) (l : List (List UInt8)) (w : List UInt8),
    (s.foldl (fun a b => if b = c then (a.1 ++ [a.2], []) else (a.1, a.2 ++ [b])) (l, w)).1 ++ [(s.foldl (fun a b => if b = c then (a.1 ++ [a.2], []) else (a.1, a.2 ++ [b])) (l, w)).2] = l ++ (w ++ (pr c s).1) :: (pr c s).2
  | [], l, w => by simp [pr]
  | b :: t, l, w => by
    by_cases h : b = c
    · rw [List.foldl_cons, if_pos h, ps_from c t]; simp [pr, h]
    · rw [List.foldl_cons, if_neg h, ps_from c t]; simp [pr, h]
theorem pieces_ps (c : UInt8) (s : List UInt8) : pieces c s = (ps c s).1 ++ [(ps c s).2] := by
  have := ps_from c s [] []
  simp only [List.nil_append] at this
  exact this.symm
theorem ps_snoc (c : UInt8) (t : List UInt8) (b : UInt8) : ps c (t ++ [b]) = if b = c then ((ps c t).1 ++ [(ps c t).2], []) else ((ps c t).1, (ps c t).2 ++ [b]) := by
  unfold ps; rw [List.foldl_append]; rfl
theorem ps_sep (c : UInt8) (t : List UInt8) : ps c (t ++ [c]) = (pieces c t, []) := by rw [ps_snoc, if_pos rfl, pieces_ps]
theorem ps_other (c : UInt8) (t : List UInt8) (b : UInt8) (h : b ≠ c) : ps c (t ++ [b]) = ((ps c t).1, (ps c t).2 ++ [b]) := by rw [ps_snoc, if_neg h]
theorem ps_nil (c : UInt8) : ps c [] = ([], []) := rfl

/-- A text ends with c, or is empty, just if nothing is left behind the last c. -/
theorem ps_last (c : UInt8) (s : List UInt8) : (ps c s).2 = [] ↔ s = [] ∨ ∃ t, s = t ++ [c] := by
  rcases List.eq_nil_or_concat s with rfl | ⟨t, b, rfl⟩
  · simp [ps_nil]
  · rw [List.concat_eq_append]
    by_cases h : b = c
    · subst h; rw [ps_sep]; simp
    · rw [ps_other c t b h]
      simp only [List.append_eq_nil_iff, List.cons_ne_nil, and_false, false_iff, not_exists, false_or]
      refine fun x hx => h ?_
      have := List.append_inj' hx rfl
      simpa using this.2
/-- What is found of a beginning, and one byte more. -/
theorem take_snoc (s : List UInt8) (i : Nat) (b : UInt8) (h : s[i]? = some b) : s.take (i + 1) = s.take i ++ [b] := by
  rw [List.take_add_one, h]; rfl

/-- Pieces have no separator. -/
theorem pieces_free (c : UInt8) : ∀ s : List UInt8, ∀ p ∈ pieces c s, c ∉ p := by
  intro s
  have all : ∀ s : List UInt8, c ∉ (pr c s).1 ∧ ∀ p ∈ (pr c s).2, c ∉ p := by
    intro s
    induction s with
    | nil => simp [pr]
    | cons b t ih =>
      by_cases h : b = c
      · simp only [pr, if_pos h]
        refine ⟨by simp, fun p hp => ?_⟩
        rcases List.mem_cons.1 hp with rfl | hp
        · exact ih.1
        · exact ih.2 p hp
      · simp only [pr, if_neg h]
        exact ⟨by simp [Ne.symm h, ih.1], ih.2⟩
  intro p hp
  rcases List.mem_cons.1 hp with rfl | hp
  · exact (all s).1
  · exact (all s).2 p hp

/-- Pieces put together again. -/
def glue (c : UInt8) : List (List UInt8) → List UInt8
  | [] => []
  | p :: r => p ++ c :: glue c r
theorem glue_append (c : UInt8) : ∀ (a b : List (List UInt8)), glue c (a ++ b) = glue c a ++ glue c b
  | [], b => rfl
  | p :: a, b => by simp [glue, glue_append c a b]
theorem glue_ps (c : UInt8) (s : List UInt8) : glue c (ps c s).1 ++ (ps c s).2 = s := by
  induction s using snoc_ind with
  | h0 => rfl
  | h1 t b ih =>
    by_cases h : b = c
    · subst h; rw [ps_snoc, if_pos rfl]
      simp only [glue_append, glue, List.append_nil]
      conv => rhs; rw [← ih]
      simp
    · rw [ps_other c t b h]
      conv => rhs; rw [← ih]
      simp
theorem pieces_length (c : UInt8) : ∀ s : List UInt8, (pieces c s).length = s.count c + 1
  | [] => rfl
  | b :: t => by
    have ih := pieces_length c t
    by_cases h : b = c
    · subst h; simp [pieces, pr] at ih ⊢; omega
    · rw [List.count_cons_of_ne (by simpa using h), ← ih]; simp [pieces, pr, h]

/-! Digits. -/
def isDigit (b : UInt8) : Bool := decide (48 ≤ b.toNat) && decide (b.toNat ≤ 57)
def val (l : List UInt8) : Nat := l.foldl (fun a b => 10 * a + (b.toNat - 48)) 0
theorem val_snoc (l : List UInt8) (b : UInt8) : val (l ++ [b]) = 10 * val l + (b.toNat - 48) := by unfold val; rw [List.foldl_append]; rfl
theorem decFrom_val : ∀ (l : List UInt8) (acc : Nat), l.all isDigit = true → decFrom acc l = some (l.foldl (fun a b => 10 * a + (b.toNat - 48)) acc)
  | [], acc, _ => rfl
  | b :: t, acc, h => by
    simp only [List.all_cons, Bool.and_eq_true] at h
    have hd : digitVal b = some (b.toNat - 48) := by
      have := h.1; simp only [isDigit, Bool.and_eq_true, decide_eq_true_eq] at this
      unfold digitVal; rw [if_pos this]
    simp only [decFrom, hd]
    rw [decFrom_val t _ h.2, List.foldl_cons, Nat.mul_comm acc 10]
/-- What a number may be: one digit at least, no 0 ahead of others. -/
def canon (l : List UInt8) : Bool := !l.isEmpty && l.all isDigit && !(decide (1 < l.length) && (l.head? == some 48))
/-- Layer 7's numbers: seven digits at most. -/
def isNum (l : List UInt8) : Bool := canon l && decide (l.length ≤ 7)
theorem canon_digits {l : List UInt8} (h : canon l = true) : l.all isDigit = true := by simp only [canon, Bool.and_eq_true] at h; exact h.1.2
theorem canon_ne {l : List UInt8} (h : canon l = true) : l ≠ [] := by simp only [canon, Bool.and_eq_true] at h; intro e; subst e; simp at h
theorem atoi_val {l : List UInt8} (h : canon l = true) : atoi l = some (val l : Int) := by
  have hd := canon_digits h
  cases l with
  | nil => exact absurd rfl (canon_ne h)
  | cons b t =>
    have hb : isDigit b = true := by simp only [List.all_cons, Bool.and_eq_true] at hd; exact hd.1
    simp only [isDigit, Bool.and_eq_true, decide_eq_true_eq] at hb
    have h1 : ¬ (b == 45) = true := fun e => by have := beq_iff_eq.1 e; subst this; simp at hb
    have h2 : ¬ (b == 43) = true := fun e => by have := beq_iff_eq.1 e; subst this; simp at hb
    rw [atoi, if_neg h1, if_neg h2, decNat, if_neg (by simp), decFrom_val _ _ hd]
    rfl
theorem val_lt : ∀ (l : List UInt8), l.all isDigit = true → val l < 10 ^ l.length := by
  intro l
  induction l using snoc_ind with
  | h0 => intro _; decide
  | h1 t b ih =>
    intro h
    simp only [List.all_append, List.all_cons, List.all_nil, Bool.and_true, Bool.and_eq_true] at h
    have hb := h.2
    simp only [isDigit, Bool.and_eq_true, decide_eq_true_eq] at hb
    have := ih h.1
    rw [val_snoc, List.length_append, List.length_singleton, Nat.pow_succ]
    omega

theorem dig_nat (d : Nat) (h : d < 10) : (UInt8.ofNat (48 + d)).toNat = 48 + d := by simp; omega
theorem dig_isDigit (d : Nat) (h : d < 10) : isDigit (UInt8.ofNat (48 + d)) = true := by unfold isDigit; rw [dig_nat d h]; simp; omega
theorem dec_digits (u : Nat) : (decDigits u).all isDigit = true := by
  induction u using Nat.strongRecOn with
  | _ u ih =>
    by_cases h : u < 10
    · rw [decDigits, dif_pos h]; rw [List.all_cons, dig_isDigit u h]; rfl
    · rw [decDigits, dif_neg h, List.all_append, ih (u / 10) (by omega), List.all_cons, dig_isDigit (u % 10) (by omega)]; rfl
theorem dec_val (u : Nat) : val (decDigits u) = u := by
  induction u using Nat.strongRecOn with
  | _ u ih =>
    by_cases h : u < 10
    · rw [decDigits, dif_pos h]; show 10 * 0 + ((UInt8.ofNat (48 + u)).toNat - 48) = u; rw [dig_nat u h]; omega
    · rw [decDigits, dif_neg h, val_snoc, ih (u / 10) (by omega), dig_nat _ (by omega)]; omega
theorem dec_ne (u : Nat) : decDigits u ≠ [] := by
  intro e; have := congrArg List.length e; rw [decDigits_length] at this; have h2 := nDigits_pos u; rw [List.length_nil] at this; omega
theorem head_append {α : Type} (a b : List α) (h : a ≠ []) : (a ++ b).head? = a.head? := by cases a with | nil => exact absurd rfl h | cons x t => rfl
theorem dec_head (u : Nat) (h0 : 1 ≤ u) : (decDigits u).head? ≠ some 48 := by
  induction u using Nat.strongRecOn with
  | _ u ih =>
    by_cases h : u < 10
    · rw [decDigits, dif_pos h]
      intro e
      have e2 : UInt8.ofNat (48 + u) = 48 := by simpa using e
      have := congrArg UInt8.toNat e2
      rw [dig_nat u h] at this
      have : (48 : UInt8).toNat = 48 := rfl
      omega
    · rw [decDigits, dif_neg h, head_append _ _ (dec_ne _)]
      exact ih (u / 10) (by omega) (by omega)
theorem dec_canon (u : Nat) : canon (decDigits u) = true := by
  have h1 := dec_digits u
  have h2 : (decDigits u).isEmpty = false := by
    have := dec_ne u
    cases h : decDigits u with
    | nil => exact absurd h this
    | cons a b => rfl
  unfold canon
  rw [h1, h2]
  by_cases h : u < 10
  · rw [decDigits_length, nDigits_small h]; simp
  · have := dec_head u (by omega)
    have : ((decDigits u).head? == some 48) = false := by simpa using this
    rw [this]; simp
theorem nDigits_le : ∀ (k u : Nat), u < 10 ^ (k + 1) → nDigits u ≤ k + 1
  | 0, u, h => by rw [nDigits_small (by simpa using h)]; omega
  | k + 1, u, h => by
    by_cases hu : u < 10
    · rw [nDigits_small hu]; omega
    · rw [nDigits_big hu]
      have := nDigits_le k (u / 10) (by rw [Nat.pow_succ] at h; omega)
      omega
theorem dec_seven (u : Nat) : (decDigits u).length ≤ 7 ↔ u ≤ 9999999 := by
  rw [decDigits_length]
  constructor
  · intro h
    have h1 := lt_pow_nDigits u
    have h2 : 10 ^ nDigits u ≤ 10 ^ 7 := Nat.pow_le_pow_right (by omega) h
    omega
  · intro h; exact nDigits_le 6 u (by omega)
theorem dec_isNum (u : Nat) : isNum (decDigits u) = decide (u ≤ 9999999) := by
  unfold isNum
  rw [dec_canon, Bool.true_and]
  exact decide_eq_decide.2 (dec_seven u)

theorem val_pos : ∀ (l : List UInt8), l ≠ [] → l.all isDigit = true → l.head? ≠ some 48 → 1 ≤ val l := by
  intro l
  induction l using snoc_ind with
  | h0 => intro h; exact absurd rfl h
  | h1 t b ih =>
    intro _ hd hh
    simp only [List.all_append, List.all_cons, List.all_nil, Bool.and_true, Bool.and_eq_true] at hd
    rw [val_snoc]
    by_cases ht : t = []
    · subst ht
      have hb := hd.2
      simp only [isDigit, Bool.and_eq_true, decide_eq_true_eq] at hb
      have : b.toNat ≠ 48 := fun e => hh (by
        have : b = 48 := UInt8.toNat_inj.1 (by rw [e]; rfl)
        subst this; rfl)
      omega
    · rw [head_append _ _ ht] at hh
      have := ih ht hd.1 hh
      omega
/-- A number is the digits of what it says. -/
theorem canon_dec : ∀ (l : List UInt8), canon l = true → decDigits (val l) = l := by
  intro l
  induction l using snoc_ind with
  | h0 => intro h; exact absurd rfl (canon_ne h)
  | h1 t b ih =>
    intro h
    have hd := canon_digits h
    simp only [List.all_append, List.all_cons, List.all_nil, Bool.and_true, Bool.and_eq_true] at hd
    have hb := hd.2
    simp only [isDigit, Bool.and_eq_true, decide_eq_true_eq] at hb
    have hbe : UInt8.ofNat (48 + (b.toNat - 48)) = b := UInt8.toNat_inj.1 (by rw [dig_nat _ (by omega)]; omega)
    rw [val_snoc]
    by_cases ht : t = []
    · subst ht
      show decDigits (10 * 0 + (b.toNat - 48)) = [b]
      rw [decDigits, dif_pos (by omega)]
      simp only [Nat.mul_zero, Nat.zero_add]
      rw [hbe]
    · have hh : t.head? ≠ some 48 := by
        simp only [canon, Bool.and_eq_true] at h
        have h3 := h.2
        rw [head_append _ _ ht] at h3
        have hl : 1 < (t ++ [b]).length := by
          cases t with
          | nil => exact absurd rfl ht
          | cons a r => simp
        rw [decide_eq_true hl] at h3
        simpa using h3
      have hp := val_pos t ht hd.1 hh
      have hc : canon t = true := by
        unfold canon
        rw [hd.1]
        have e1 : t.isEmpty = false := by cases t with | nil => exact absurd rfl ht | cons _ _ => rfl
        have e2 : (t.head? == some 48) = false := by simpa using hh
        rw [e1, e2]; simp
      rw [decDigits, dif_neg (by omega), show (10 * val t + (b.toNat - 48)) / 10 = val t by omega, show (10 * val t + (b.toNat - 48)) % 10 = b.toNat - 48 by omega, ih hc, hbe]

/-- What Number says of a word, at most. -/
def numOk (l : List UInt8) (most : Int) : Bool := isNum l && decide ((val l : Int) ≤ most)
def numVal (l : List UInt8) (most : Int) : Int := if numOk l most then (val l : Int) else 0
/-- What Lines answers: the error, the lines. -/
def lnE (l : List UInt8) : Int := if 1048576 < l.length then 16 else if (ps 10 l).2.isEmpty then 0 else 4
def lnL (l : List UInt8) : List (List UInt8) := if lnE l = 0 then (ps 10 l).1 else []
theorem lnE_long {l : List UInt8} (h : 1048576 < l.length) : lnE l = 16 := by unfold lnE; rw [if_pos h]
theorem lnE_sep {t : List UInt8} (h : ¬ 1048576 < (t ++ [10]).length) : lnE (t ++ [10]) = 0 ∧ lnL (t ++ [10]) = pieces 10 t := by
  have e : lnE (t ++ [10]) = 0 := by unfold lnE; rw [if_neg h, ps_sep]; rfl
  refine ⟨e, ?_⟩
  unfold lnL; rw [if_pos e, ps_sep]
theorem lnE_nil : lnE [] = 0 ∧ lnL [] = [] := ⟨rfl, rfl⟩
theorem lnE_open {l : List UInt8} (h : ¬ 1048576 < l.length) (h0 : (ps 10 l).2 ≠ []) : lnE l = 4 ∧ lnL l = [] := by
  have e : lnE l = 4 := by
    unfold lnE; rw [if_neg h, if_neg]
    intro x; exact h0 (List.isEmpty_iff.1 x)
  refine ⟨e, ?_⟩
  unfold lnL; rw [if_neg (by rw [e]; decide)]
theorem lnL_none {l : List UInt8} (h : lnE l ≠ 0) : lnL l = [] := by unfold lnL; rw [if_neg h]
/-- What Words answers. -/
def wdOk (l : List UInt8) : Bool := (pieces 32 l).all (fun p => !p.isEmpty)
def wdL (l : List UInt8) : List (List UInt8) := if wdOk l then pieces 32 l else []
theorem wdOk_mem (l : List UInt8) : wdOk l = !decide ([] ∈ pieces 32 l) := by
  unfold wdOk
  rw [Bool.eq_iff_iff]
  simp only [List.all_eq_true, Bool.not_eq_true', decide_eq_false_iff_not]
  constructor
  · intro h hm
    have := h [] hm
    simp at this
  · intro h p hp
    cases p with
    | nil => exact absurd hp h
    | cons a t => rfl
end Go.Proofs.YtgedcalplfnjmaaDoor.LexM
