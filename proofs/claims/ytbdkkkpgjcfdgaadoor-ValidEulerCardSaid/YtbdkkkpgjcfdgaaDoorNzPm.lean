/-
  Pieces between separators, digits and what they say, over lists of bytes; no program stands here. Conditions: none.
  Shapes' texts as lists of bytes: what a first line, an edge's line and a whole text say; no program stands here. Conditions: none.
  A shape's text, as a list of bytes, is parsed to that shape; lines left out, doubled, joined; no program stands here. Conditions: none.
  What a text is parsed to is printed as that text; an edge from its other end; texts of shapes that aren't the same; no program stands here. Conditions: none.
  A direction by lefts less rights; bends from the last one to the first one: mathematics. Conditions: none.
-/
import Derived.Lib.SplitLaws
import Derived.Lib.ItoaNum
import Derived.Lib.AtoiTie
import Derived.Lib.ItoaLen
namespace Go.Proofs.YtbdkkkpgjcfdgaaDoor.LexM
open Go.Lib

theorem snoc_ind {α : Type} {p : List α → Prop} (h0 : p []) (h1 : ∀ t b, p t → p (t ++ [b])) (l : List α) : p l := by
  have all : ∀ m : List α, p m.reverse := by
    intro m
    induction m with
    | nil => exact h0
    | cons b t ih => rw [List.reverse_cons]; exact h1 _ _ ih
  have := all l.reverse
  rwa [List.reverse_reverse] at this

/-! Pieces. -/
def pr (c : UInt8) : List UInt8 → List UInt8 × List (List UInt8)
  | [] => ([], [])
  | b :: t => if b = c then ([], (pr c t).1 :: (pr c t).2) else (b :: (pr c t).1, (pr c t).2)
/-- The pieces between all bytes c. -/
def pieces (c : UInt8) (s : List UInt8) : List (List UInt8) := (pr c s).1 :: (pr c s).2

theorem index_ne (b c : UInt8) (l : List UInt8) (h : b ≠ c) : index (b :: l) [c] = if index l [c] == -1 then -1 else index l [c] + 1 := by
  have hp : ([c] : List UInt8).isPrefixOf (b :: l) = false := by simp [List.isPrefixOf, Ne.symm h]
  rw [index, hp]; simp
theorem index_eq (c : UInt8) (l : List UInt8) : index (c :: l) [c] = 0 := by rw [index]; simp [List.isPrefixOf]
theorem index_none (c : UInt8) : ∀ l : List UInt8, l.count c = 0 ↔ index l [c] = -1
  | [] => by simp [index]
  | b :: l => by
    by_cases h : b = c
    · subst h; rw [index_eq]; simp
    · rw [index_ne b c l h, List.count_cons_of_ne (by simpa using h), index_none c l]
      have := index_ge l [c]
      constructor
      · intro e; rw [e]; rfl
      · intro e
        by_cases hm : index l [c] = -1
        · exact hm
        · rw [if_neg (fun x => hm (beq_iff_eq.1 x))] at e; omega

theorem split_pieces (c : UInt8) : ∀ s : List UInt8, splitK [c] 0 (s.count c) s = pieces c s
  | [] => rfl
  | b :: t => by
    have ih := split_pieces c t
    by_cases h : b = c
    · subst h
      rw [List.count_cons_self, splitK, index_eq]
      simp [pieces, pr] at ih ⊢
      exact ih
    · rw [List.count_cons_of_ne (by simpa using h)]
      have hp : pieces c (b :: t) = (b :: (pr c t).1) :: (pr c t).2 := by simp [pieces, pr, h]
      rw [hp]
      cases hk : t.count c with
      | zero =>
        rw [hk] at ih
        simp only [splitK, pieces, List.cons.injEq] at ih ⊢
        obtain ⟨i1, i2⟩ := ih
        rw [← i1, ← i2]
        simp
      | succ k =>
        rw [hk] at ih
        have hn : ¬ index t [c] = -1 := fun e => by rw [← index_none] at e; omega
        have hge := index_ge t [c]
        obtain ⟨j, hj⟩ : ∃ j : Nat, index t [c] = j := ⟨(index t [c]).toNat, by omega⟩
        have hx : index (b :: t) [c] = ((j + 1 : Nat) : Int) := by rw [index_ne b c t h, if_neg (fun e => hn (beq_iff_eq.1 e)), hj]; omega
        rw [splitK, hj, if_neg (by simp)] at ih
        rw [splitK, hx, if_neg (by simp; omega)]
        simp only [pieces, List.cons.injEq] at ih
        obtain ⟨i1, i2⟩ := ih
        simp only [Int.toNat_natCast, Nat.add_zero, List.length_singleton, List.take_succ_cons, List.drop_succ_cons] at i1 i2 ⊢
        rw [i1, i2]

/-- The pieces as they are found byte by byte: those that are done, and what there is of the last one. -/
def ps (c : UInt8) (t : List UInt8) : List (List UInt8) × List UInt8 :=
  t.foldl (fun a b => if b = c then (a.1 ++ [a.2], []) else (a.1, a.2 ++ [b])) ([], [])
theorem ps_from (c : UInt8) : ∀ (s : List UInt8) (l : List (List UInt8)) (w : List UInt8),
    (s.foldl (fun a b => if b = c then (a.1 ++ [a.2], []) else (a.1, a.2 ++ [b])) (l, w)).1 ++ [(s.foldl (fun a b => if b = c then (a.1 ++ [a.2], []) else (a.1, a.2 ++ [b])) (l, w)).2] = l ++ (w ++ (pr c s).1) :: (pr c s).2
  | [], l, w => by simp [pr]
  | b :: t, l, w => by
    by_cases h : b = c
    · rw [List.foldl_cons, if_pos h, ps_from c t]; simp [pr, h]
    · rw [List.foldl_cons, if_neg h, ps_from c t]; simp [pr, h]
theorem pieces_ps (c : UInt8) (s : List UInt8) : pieces c s = (ps c s).1 ++ [(ps c s).2] := by
  have := ps_from c s [] []
  simp only [List.nil_append] at this
  exact this.symm
theorem ps_snoc (c : UInt8) (t : List UInt8) (b : UInt8) : ps c (t ++ [b]) = if b = c then ((ps c t).1 ++ [(ps c t).2], []) else ((ps c t).1, (ps c t).2 ++ [b]) := by
  unfold ps; rw [List.foldl_append]; rfl
theorem ps_sep (c : UInt8) (t : List UInt8) : ps c (t ++ [c]) = (pieces c t, []) := by rw [ps_snoc, if_pos rfl, pieces_ps]
theorem ps_other (c : UInt8) (t : List UInt8) (b : UInt8) (h : b ≠ c) : ps c (t ++ [b]) = ((ps c t).1, (ps c t).2 ++ [b]) := by rw [ps_snoc, if_neg h]
theorem ps_nil (c : UInt8) : ps c [] = ([], []) := rfl

/-- A text ends with c, or is empty, just if nothing is left behind the last c. -/
theorem ps_last (c : UInt8) (s : List UInt8) : (ps c s).2 = [] ↔ s = [] ∨ ∃ t, s = t ++ [c] := by
  rcases List.eq_nil_or_concat s with rfl | ⟨t, b, rfl⟩
  · simp [ps_nil]
  · rw [List.concat_eq_append]
    by_cases h : b = c
    · subst h; rw [ps_sep]; simp
    · rw [ps_other c t b h]
      simp only [List.append_eq_nil_iff, List.cons_ne_nil, and_false, false_iff, not_exists, false_or]
      refine fun x hx => h ?_
      have := List.append_inj' hx rfl
      simpa using this.2
/-- What is found of a beginning, and one byte more. -/
theorem take_snoc (s : List UInt8) (i : Nat) (b : UInt8) (h : s[i]? = some b) : s.take (i + 1) = s.take i ++ [b] := by
  rw [List.take_add_one, h]; rfl

/-- Pieces have no separator. -/
theorem pieces_free (c : UInt8) : ∀ s : List UInt8, ∀ p ∈ pieces c s, c ∉ p := by
  intro s
  have all : ∀ s : List UInt8, c ∉ (pr c s).1 ∧ ∀ p ∈ (pr c s).2, c ∉ p := by
    intro s
    induction s with
    | nil => simp [pr]
    | cons b t ih =>
      by_cases h : b = c
      · simp only [pr, if_pos h]
        refine ⟨by simp, fun p hp => ?_⟩
        rcases List.mem_cons.1 hp with rfl | hp
        · exact ih.1
        · exact ih.2 p hp
      · simp only [pr, if_neg h]
        exact ⟨by simp [Ne.symm h, ih.1], ih.2⟩
  intro p hp
  rcases List.mem_cons.1 hp with rfl | hp
  · exact (all s).1
  · exact (all s).2 p hp

/-- Pieces put together again. -/
def glue (c : UInt8) : List (List UInt8) → List UInt8
  | [] => []
  | p :: r => p ++ c :: glue c r
theorem glue_append (c : UInt8) : ∀ (a b : List (List UInt8)), glue c (a ++ b) = glue c a ++ glue c b
  | [], b => rfl
  | p :: a, b => by simp [glue, glue_append c a b]
theorem glue_ps (c : UInt8) (s : List UInt8) : glue c (ps c s).1 ++ (ps c s).2 = s := by
  induction s using snoc_ind with
  | h0 => rfl
  | h1 t b ih =>
    by_cases h : b = c
    · subst h; rw [ps_snoc, if_pos rfl]
      simp only [glue_append, glue, List.append_nil]
      conv => rhs; rw [← ih]
      simp
    · rw [ps_other c t b h]
      conv => rhs; rw [← ih]
      simp
theorem pieces_length (c : UInt8) : ∀ s : List UInt8, (pieces c s).length = s.count c + 1
  | [] => rfl
  | b :: t => by
    have ih := pieces_length c t
    by_cases h : b = c
    · subst h; simp [pieces, pr] at ih ⊢; omega
    · rw [List.count_cons_of_ne (by simpa using h), ← ih]; simp [pieces, pr, h]

/-! Digits. -/
def isDigit (b : UInt8) : Bool := decide (48 ≤ b.toNat) && decide (b.toNat ≤ 57)
def val (l : List UInt8) : Nat := l.foldl (fun a b => 10 * a + (b.toNat - 48)) 0
theorem val_snoc (l : List UInt8) (b : UInt8) : val (l ++ [b]) = 10 * val l + (b.toNat - 48) := by unfold val; rw [List.foldl_append]; rfl
theorem decFrom_val : ∀ (l : List UInt8) (acc : Nat), l.all isDigit = true → decFrom acc l = some (l.foldl (fun a b => 10 * a + (b.toNat - 48)) acc)
  | [], acc, _ => rfl
  | b :: t, acc, h => by
    simp only [List.all_cons, Bool.and_eq_true] at h
    have hd : digitVal b = some (b.toNat - 48) := by
      have := h.1; simp only [isDigit, Bool.and_eq_true, decide_eq_true_eq] at this
      unfold digitVal; rw [if_pos this]
    simp only [decFrom, hd]
    rw [decFrom_val t _ h.2, List.foldl_cons, Nat.mul_comm acc 10]
/-- What a number may be: one digit at least, no 0 ahead of others. -/
def canon (l : List UInt8) : Bool := !l.isEmpty && l.all isDigit && !(decide (1 < l.length) && (l.head? == some 48))
/-- Layer 7's numbers: seven digits at most. -/
def isNum (l : List UInt8) : Bool := canon l && decide (l.length ≤ 7)
theorem canon_digits {l : List UInt8} (h : canon l = true) : l.all isDigit = true := by simp only [canon, Bool.and_eq_true] at h; exact h.1.2
theorem canon_ne {l : List UInt8} (h : canon l = true) : l ≠ [] := by simp only [canon, Bool.and_eq_true] at h; intro e; subst e; simp at h
theorem atoi_val {l : List UInt8} (h : canon l = true) : atoi l = some (val l : Int) := by
  have hd := canon_digits h
  cases l with
  | nil => exact absurd rfl (canon_ne h)
  | cons b t =>
    have hb : isDigit b = true := by simp only [List.all_cons, Bool.and_eq_true] at hd; exact hd.1
    simp only [isDigit, Bool.and_eq_true, decide_eq_true_eq] at hb
    have h1 : ¬ (b == 45) = true := fun e => by have := beq_iff_eq.1 e; subst this; simp at hb
    have h2 : ¬ (b == 43) = true := fun e => by have := beq_iff_eq.1 e; subst this; simp at hb
    rw [atoi, if_neg h1, if_neg h2, decNat, if_neg (by simp), decFrom_val _ _ hd]
    rfl
theorem val_lt : ∀ (l : List UInt8), l.all isDigit = true → val l < 10 ^ l.length := by
  intro l
  induction l using snoc_ind with
  | h0 => intro _; decide
  | h1 t b ih =>
    intro h
    simp only [List.all_append, List.all_cons, List.all_nil, Bool.and_true, Bool.and_eq_true] at h
    have hb := h.2
    simp only [isDigit, Bool.and_eq_true, decide_eq_true_eq] at hb
    have := ih h.1
    rw [val_snoc, List.length_append, List.length_singleton, Nat.pow_succ]
    omega

theorem dig_nat (d : Nat) (h : d < 10) : (UInt8.ofNat (48 + d)).toNat = 48 + d := by simp; omega
theorem dig_isDigit (d : Nat) (h : d < 10) : isDigit (UInt8.ofNat (48 + d)) = true := by unfold isDigit; rw [dig_nat d h]; simp; omega
theorem dec_digits (u : Nat) : (decDigits u).all isDigit = true := by
  induction u using Nat.strongRecOn with
  | _ u ih =>
    by_cases h : u < 10
    · rw [decDigits, dif_pos h]; rw [List.all_cons, dig_isDigit u h]; rfl
    · rw [decDigits, dif_neg h, List.all_append, ih (u / 10) (by omega), List.all_cons, dig_isDigit (u % 10) (by omega)]; rfl
theorem dec_val (u : Nat) : val (decDigits u) = u := by
  induction u using Nat.strongRecOn with
  | _ u ih =>
    by_cases h : u < 10
    · rw [decDigits, dif_pos h]; show 10 * 0 + ((UInt8.ofNat (48 + u)).toNat - 48) = u; rw [dig_nat u h]; omega
    · rw [decDigits, dif_neg h, val_snoc, ih (u / 10) (by omega), dig_nat _ (by omega)]; omega
theorem dec_ne (u : Nat) : decDigits u ≠ [] := by
  intro e; have := congrArg List.length e; rw [decDigits_length] at this; have h2 := nDigits_pos u; rw [List.length_nil] at this; omega
theorem head_append {α : Type} (a b : List α) (h : a ≠ []) : (a ++ b).head? = a.head? := by cases a with | nil => exact absurd rfl h | cons x t => rfl
theorem dec_head (u : Nat) (h0 : 1 ≤ u) : (decDigits u).head? ≠ some 48 := by
  induction u using Nat.strongRecOn with
  | _ u ih =>
    by_cases h : u < 10
    · rw [decDigits, dif_pos h]
      intro e
      have e2 : UInt8.ofNat (48 + u) = 48 := by simpa using e
      have := congrArg UInt8.toNat e2
      rw [dig_nat u h] at this
      have : (48 : UInt8).toNat = 48 := rfl
      omega
    · rw [decDigits, dif_neg h, head_append _ _ (dec_ne _)]
      exact ih (u / 10) (by omega) (by omega)
theorem dec_canon (u : Nat) : canon (decDigits u) = true := by
  have h1 := dec_digits u
  have h2 : (decDigits u).isEmpty = false := by
    have := dec_ne u
    cases h : decDigits u with
    | nil => exact absurd h this
    | cons a b => rfl
  unfold canon
  rw [h1, h2]
  by_cases h : u < 10
  · rw [decDigits_length, nDigits_small h]; simp
  · have := dec_head u (by omega)
    have : ((decDigits u).head? == some 48) = false := by simpa using this
    rw [this]; simp
theorem nDigits_le : ∀ (k u : Nat), u < 10 ^ (k + 1) → nDigits u ≤ k + 1
  | 0, u, h => by rw [nDigits_small (by simpa using h)]; omega
  | k + 1, u, h => by
    by_cases hu : u < 10
    · rw [nDigits_small hu]; omega
    · rw [nDigits_big hu]
      have := nDigits_le k (u / 10) (by rw [Nat.pow_succ] at h; omega)
      omega
theorem dec_seven (u : Nat) : (decDigits u).length ≤ 7 ↔ u ≤ 9999999 := by
  rw [decDigits_length]
  constructor
  · intro h
    have h1 := lt_pow_nDigits u
    have h2 : 10 ^ nDigits u ≤ 10 ^ 7 := Nat.pow_le_pow_right (by omega) h
    omega
  · intro h; exact nDigits_le 6 u (by omega)
theorem dec_isNum (u : Nat) : isNum (decDigits u) = decide (u ≤ 9999999) := by
  unfold isNum
  rw [dec_canon, Bool.true_and]
  exact decide_eq_decide.2 (dec_seven u)

theorem val_pos : ∀ (l : List UInt8), l ≠ [] → l.all isDigit = true → l.head? ≠ some 48 → 1 ≤ val l := by
  intro l
  induction l using snoc_ind with
  | h0 => intro h; exact absurd rfl h
  | h1 t b ih =>
    intro _ hd hh
    simp only [List.all_append, List.all_cons, List.all_nil, Bool.and_true, Bool.and_eq_true] at hd
    rw [val_snoc]
    by_cases ht : t = []
    · subst ht
      have hb := hd.2
      simp only [isDigit, Bool.and_eq_true, decide_eq_true_eq] at hb
      have : b.toNat ≠ 48 := fun e => hh (by
        have : b = 48 := UInt8.toNat_inj.1 (by rw [e]; rfl)
        subst this; rfl)
      omega
    · rw [head_append _ _ ht] at hh
      have := ih ht hd.1 hh
      omega
/-- A number is the digits of what it says. -/
theorem canon_dec : ∀ (l : List UInt8), canon l = true → decDigits (val l) = l := by
  intro l
  induction l using snoc_ind with
  | h0 => intro h; exact absurd rfl (canon_ne h)
  | h1 t b ih =>
    intro h
    have hd := canon_digits h
    simp only [List.all_append, List.all_cons, List.all_nil, Bool.and_true, Bool.and_eq_true] at hd
    have hb := hd.2
    simp only [isDigit, Bool.and_eq_true, decide_eq_true_eq] at hb
    have hbe : UInt8.ofNat (48 + (b.toNat - 48)) = b := UInt8.toNat_inj.1 (by rw [dig_nat _ (by omega)]; omega)
    rw [val_snoc]
    by_cases ht : t = []
    · subst ht
      show decDigits (10 * 0 + (b.toNat - 48)) = [b]
      rw [decDigits, dif_pos (by omega)]
      simp only [Nat.mul_zero, Nat.zero_add]
      rw [hbe]
    · have hh : t.head? ≠ some 48 := by
        simp only [canon, Bool.and_eq_true] at h
        have h3 := h.2
        rw [head_append _ _ ht] at h3
        have hl : 1 < (t ++ [b]).length := by
          cases t with
          | nil => exact absurd rfl ht
          | cons a r => simp
        rw [decide_eq_true hl] at h3
        simpa using h3
      have hp := val_pos t ht hd.1 hh
      have hc : canon t = true := by
        unfold canon
        rw [hd.1]
        have e1 : t.isEmpty = false := by cases t with | nil => exact absurd rfl ht | cons _ _ => rfl
        have e2 : (t.head? == some 48) = false := by simpa using hh
        rw [e1, e2]; simp
      rw [decDigits, dif_neg (by omega), show (10 * val t + (b.toNat - 48)) / 10 = val t by omega, show (10 * val t + (b.toNat - 48)) % 10 = b.toNat - 48 by omega, ih hc, hbe]

/-- What Number says of a word, at most. -/
def numOk (l : List UInt8) (most : Int) : Bool := isNum l && decide ((val l : Int) ≤ most)
def numVal (l : List UInt8) (most : Int) : Int := if numOk l most then (val l : Int) else 0
/-- What Lines answers: the error, the lines. -/
def lnE (l : List UInt8) : Int := if 1048576 < l.length then 16 else if (ps 10 l).2.isEmpty then 0 else 4
def lnL (l : List UInt8) : List (List UInt8) := if lnE l = 0 then (ps 10 l).1 else []
theorem lnE_long {l : List UInt8} (h : 1048576 < l.length) : lnE l = 16 := by unfold lnE; rw [if_pos h]
theorem lnE_sep {t : List UInt8} (h : ¬ 1048576 < (t ++ [10]).length) : lnE (t ++ [10]) = 0 ∧ lnL (t ++ [10]) = pieces 10 t := by
  have e : lnE (t ++ [10]) = 0 := by unfold lnE; rw [if_neg h, ps_sep]; rfl
  refine ⟨e, ?_⟩
  unfold lnL; rw [if_pos e, ps_sep]
theorem lnE_nil : lnE [] = 0 ∧ lnL [] = [] := ⟨rfl, rfl⟩
theorem lnE_open {l : List UInt8} (h : ¬ 1048576 < l.length) (h0 : (ps 10 l).2 ≠ []) : lnE l = 4 ∧ lnL l = [] := by
  have e : lnE l = 4 := by
    unfold lnE; rw [if_neg h, if_neg]
    intro x; exact h0 (List.isEmpty_iff.1 x)
  refine ⟨e, ?_⟩
  unfold lnL; rw [if_neg (by rw [e]; decide)]
theorem lnL_none {l : List UInt8} (h : lnE l ≠ 0) : lnL l = [] := by unfold lnL; rw [if_neg h]
/-- What Words answers. -/
def wdOk (l : List UInt8) : Bool := (pieces 32 l).all (fun p => !p.isEmpty)
def wdL (l : List UInt8) : List (List UInt8) := if wdOk l then pieces 32 l else []
theorem wdOk_mem (l : List UInt8) : wdOk l = !decide ([] ∈ pieces 32 l) := by
  unfold wdOk
  rw [Bool.eq_iff_iff]
  simp only [List.all_eq_true, Bool.not_eq_true', decide_eq_false_iff_not]
  constructor
  · intro h hm
    have := h [] hm
    simp at this
  · intro h p hp
    cases p with
    | nil => exact absurd hp h
    | cons a t => rfl
end Go.Proofs.YtbdkkkpgjcfdgaaDoor.LexM

namespace Go.Proofs.YtbdkkkpgjcfdgaaDoor.ParM
open Go.Lib Go.Proofs.YtbdkkkpgjcfdgaaDoor.LexM

/-- An edge: from, to, direction, bends. -/
abbrev Edg := Int × Int × Int × List UInt8
def noE : Edg := (0, 0, 0, [])
def shapeW : List UInt8 := [115, 104, 97, 112, 101]
def endW : List UInt8 := [101, 110, 100]
def isTurns (l : List UInt8) : Bool := l.all fun b => decide (b = 76) || decide (b = 82)
def isBox (l : List UInt8) : Bool := l.all fun b => decide (b = 112) || decide (b = 98)
def boxesOf (l : List UInt8) : List Bool := l.map fun b => decide (b = 98)
/-- The direction of a letter; -1: it is none's. -/
def dirOf (l : List UInt8) : Int := if l = [69] then 0 else if l = [78] then 1 else if l = [87] then 2 else if l = [83] then 3 else -1
/-- What the vertices' word says: the error, the vertices. -/
def fstW (p : List UInt8) : Int := if p = [45] then 0 else if isBox p = true then (if 4096 < p.length then 6 else 0) else 4
def fstV (p : List UInt8) : List Bool := if p = [45] then [] else boxesOf p
def fstE (l : List UInt8) : Int := match wdL l with
  | [a, p] => if a = shapeW then fstW p else 4
  | _ => 4
def fstB (l : List UInt8) : List Bool := match wdL l with
  | [a, p] => if a = shapeW ∧ fstW p = 0 then fstV p else []
  | _ => []
/-- What a vertex's word says. -/
def vtxE (n : Nat) (p : List UInt8) : Int := if numOk p 9999999 = true then (if numVal p 9999999 < n then 0 else 3) else 5
def edgW (n : Nat) (a d b t : List UInt8) : Int :=
  if vtxE n a ≠ 0 then vtxE n a else if dirOf d = -1 then 4 else if vtxE n b ≠ 0 then vtxE n b else if isTurns t = true then 0 else 4
def edgX (n : Nat) (a d b t : List UInt8) : Edg := if edgW n a d b t = 0 then (numVal a 9999999, numVal b 9999999, dirOf d, t) else noE
def edgE (n : Nat) (l : List UInt8) : Int := match wdL l with
  | [a, d, b] => edgW n a d b []
  | [a, d, b, t] => edgW n a d b t
  | _ => 4
def edgV (n : Nat) (l : List UInt8) : Edg := match wdL l with
  | [a, d, b] => edgX n a d b []
  | [a, d, b, t] => edgX n a d b t
  | _ => noE
/-- The lines behind the first one: the error, the line, the edges. -/
def goE (n : Nat) : List (List UInt8) → Nat → List Edg → Nat → Int × Int × List Edg
  | [], i, _, _ => (4, (i : Int) + 1, [])
  | l :: ls, i, E, b =>
    if l = endW then (if ls = [] then (0, 0, E) else (4, (i : Int) + 2, []))
    else if edgE n l ≠ 0 then (edgE n l, (i : Int) + 1, [])
    else if 4096 < E.length + 1 ∨ 4096 < b + (edgV n l).2.2.2.length then (6, (i : Int) + 1, [])
    else goE n ls (i + 1) (E ++ [edgV n l]) (b + (edgV n l).2.2.2.length)
/-- What a text is parsed to: the error, the line, the vertices, the edges. -/
def par (s : List UInt8) : Int × Int × List Bool × List Edg :=
  if lnE s ≠ 0 then (lnE s, 0, [], []) else match lnL s with
  | [] => (4, 1, [], [])
  | l :: ls => if fstE l ≠ 0 then (fstE l, 1, [], []) else
    ((goE (fstB l).length ls 1 [] 0).1, (goE (fstB l).length ls 1 [] 0).2.1, if (goE (fstB l).length ls 1 [] 0).1 = 0 then fstB l else [], (goE (fstB l).length ls 1 [] 0).2.2)

/-! An error comes without a shape. -/
theorem goE_none (n : Nat) : ∀ (L : List (List UInt8)) (i : Nat) (E : List Edg) (b : Nat), (goE n L i E b).1 ≠ 0 → (goE n L i E b).2.2 = []
  | [], i, E, b, h => rfl
  | l :: ls, i, E, b, h => by
    unfold goE at h ⊢
    split
    · rename_i h1
      rw [if_pos h1] at h
      split
      · rename_i h2; rw [if_pos h2] at h; exact absurd rfl h
      · rfl
    · rename_i h1
      rw [if_neg h1] at h
      split
      · rfl
      · rename_i h2
        rw [if_neg h2] at h
        split
        · rfl
        · rename_i h3
          rw [if_neg h3] at h
          exact goE_none n ls _ _ _ h
theorem par_none {s : List UInt8} (h : (par s).1 ≠ 0) : (par s).2.2.1 = [] ∧ (par s).2.2.2 = [] := by
  unfold par at h ⊢
  split
  · exact ⟨rfl, rfl⟩
  · rename_i h0
    rw [if_neg h0] at h
    split
    · exact ⟨rfl, rfl⟩
    · rename_i l ls hl
      rw [hl] at h
      simp only [] at h
      split
      · exact ⟨rfl, rfl⟩
      · rename_i h1
        rw [if_neg h1] at h
        exact ⟨if_neg h, goE_none _ _ _ _ _ h⟩

/-! Which line. -/
theorem goE_line (n : Nat) : ∀ (L : List (List UInt8)) (i : Nat) (E : List Edg) (b : Nat), ((goE n L i E b).1 = 0 → (goE n L i E b).2.1 = 0) ∧ 0 ≤ (goE n L i E b).2.1 ∧ (goE n L i E b).2.1 ≤ i + L.length + 1
  | [], i, E, b => by
    unfold goE
    simp only [List.length_nil]
    exact ⟨fun h => absurd h (by decide), by omega, by omega⟩
  | l :: ls, i, E, b => by
    unfold goE
    simp only [List.length_cons]
    split
    · split
      · exact ⟨fun _ => rfl, by simp only []; omega, by simp only []; omega⟩
      · rename_i h2
        have : 0 < ls.length := List.length_pos_iff.2 h2
        exact ⟨fun h => absurd (show (4 : Int) = 0 from h) (by decide), by simp only []; omega, by simp only []; omega⟩
    · split
      · rename_i h2
        exact ⟨fun h => absurd h h2, by simp only []; omega, by simp only []; omega⟩
      · split
        · exact ⟨fun h => absurd (show (6 : Int) = 0 from h) (by decide), by simp only []; omega, by simp only []; omega⟩
        · obtain ⟨h1, h2, h3⟩ := goE_line n ls (i + 1) (E ++ [edgV n l]) (b + (edgV n l).2.2.2.length)
          exact ⟨h1, h2, by omega⟩
theorem lnL_count (s : List UInt8) : (lnL s).length ≤ s.count 10 := by
  unfold lnL
  split
  · have h := congrArg List.length (pieces_ps 10 s)
    rw [pieces_length, List.length_append, List.length_singleton] at h
    omega
  · simp
theorem par_line (s : List UInt8) : ((par s).1 = 0 → (par s).2.1 = 0) ∧ 0 ≤ (par s).2.1 ∧ (par s).2.1 ≤ s.count 10 + 1 := by
  have hc := lnL_count s
  unfold par
  split
  · exact ⟨fun h => rfl, by simp only []; omega, by simp only []; omega⟩
  · split
    · exact ⟨fun h => absurd h (by decide), by simp only []; omega, by simp only []; omega⟩
    · rename_i l ls hl
      rw [hl, List.length_cons] at hc
      split
      · rename_i h1
        exact ⟨fun h => absurd h h1, by simp only []; omega, by simp only []; omega⟩
      · obtain ⟨h1, h2, h3⟩ := goE_line (fstB l).length ls 1 [] 0
        exact ⟨h1, h2, by simp only []; omega⟩

/-! What may be written. -/
def okE (n : Nat) (e : Edg) : Prop := 0 ≤ e.1 ∧ e.1 < n ∧ 0 ≤ e.2.1 ∧ e.2.1 < n ∧ 0 ≤ e.2.2.1 ∧ e.2.2.1 ≤ 3 ∧ isTurns e.2.2.2 = true
def bendsOf (E : List Edg) : Nat := (E.map fun e => e.2.2.2.length).sum
structure May (B : List Bool) (E : List Edg) : Prop where
  vs : B.length ≤ 4096
  es : E.length ≤ 4096
  bs : bendsOf E ≤ 4096
  ok : ∀ e ∈ E, okE B.length e
theorem dirOf_range (l : List UInt8) : dirOf l = -1 ∨ (0 ≤ dirOf l ∧ dirOf l ≤ 3) := by
  unfold dirOf
  repeat' split
  all_goals (first | (left; rfl) | (right; decide))
theorem numVal_nonneg (p : List UInt8) (m : Int) : 0 ≤ numVal p m := by
  unfold numVal; split <;> omega
theorem edgX_ok {n : Nat} {a d b t : List UInt8} (h : edgW n a d b t = 0) : okE n (edgX n a d b t) := by
  unfold edgX
  rw [if_pos h]
  unfold edgW at h
  have hv : ∀ p, vtxE n p = 0 → numVal p 9999999 < n := by
    intro p hp
    unfold vtxE at hp
    split at hp
    · split at hp
      · assumption
      · cases hp
    · cases hp
  split at h
  · rename_i h1; exact absurd h h1
  · rename_i h1
    split at h
    · cases h
    · rename_i h2
      split at h
      · rename_i h3; exact absurd h h3
      · rename_i h3
        split at h
        · rename_i h4
          have hd := (dirOf_range d).resolve_left h2
          exact ⟨numVal_nonneg _ _, hv a (by omega), numVal_nonneg _ _, hv b (by omega), hd.1, hd.2, h4⟩
        · cases h
theorem edgV_ok {n : Nat} {l : List UInt8} (h : edgE n l = 0) : okE n (edgV n l) := by
  unfold edgE at h
  unfold edgV
  split at h
  · exact edgX_ok h
  · exact edgX_ok h
  · cases h
theorem bendsOf_snoc (E : List Edg) (e : Edg) : bendsOf (E ++ [e]) = bendsOf E + e.2.2.2.length := by
  simp [bendsOf, List.sum_append]
theorem goE_may (B : List Bool) (hB : B.length ≤ 4096) : ∀ (L : List (List UInt8)) (i : Nat) (E : List Edg) (b : Nat), May B E → bendsOf E = b → (goE B.length L i E b).1 = 0 → May B (goE B.length L i E b).2.2
  | [], i, E, b, hM, hb, h => by unfold goE at h; cases h
  | l :: ls, i, E, b, hM, hb, h => by
    unfold goE at h ⊢
    split
    · rename_i h1
      rw [if_pos h1] at h
      split
      · exact hM
      · rename_i h2; rw [if_neg h2] at h; cases h
    · rename_i h1
      rw [if_neg h1] at h
      split
      · rename_i h2; rw [if_pos h2] at h; exact absurd h h2
      · rename_i h2
        rw [if_neg h2] at h
        split
        · rename_i h3; rw [if_pos h3] at h; cases h
        · rename_i h3
          rw [if_neg h3] at h
          refine goE_may B hB ls _ _ _ ⟨hB, by rw [List.length_append, List.length_singleton]; omega, by rw [bendsOf_snoc]; omega, fun e he => ?_⟩ (by rw [bendsOf_snoc, hb]) h
          rcases List.mem_append.1 he with he | he
          · exact hM.ok e he
          · obtain rfl := List.mem_singleton.1 he
            exact edgV_ok (by omega)
theorem fstB_len (l : List UInt8) : (fstB l).length ≤ 4096 := by
  unfold fstB
  split
  · split
    · rename_i h
      have h2 := h.2
      unfold fstW at h2
      unfold fstV
      split
      · simp
      · rename_i h3
        rw [if_neg h3] at h2
        simp only [boxesOf, List.length_map]
        split at h2
        · split at h2
          · cases h2
          · omega
        · cases h2
    · simp
  · simp
theorem par_may {s : List UInt8} (h : (par s).1 = 0) : May (par s).2.2.1 (par s).2.2.2 := by
  unfold par at h ⊢
  split
  · rename_i h0; rw [if_pos h0] at h; exact absurd h h0
  · rename_i h0
    rw [if_neg h0] at h
    split
    · rename_i hl; rw [hl] at h; cases h
    · rename_i l ls hl
      rw [hl] at h
      simp only [] at h
      split
      · rename_i h1; rw [if_pos h1] at h; exact absurd h h1
      · rename_i h1
        rw [if_neg h1] at h
        simp only [] at h ⊢
        rw [if_pos h]
        exact goE_may _ (fstB_len l) ls 1 [] 0 ⟨fstB_len l, by simp, by simp [bendsOf], by simp⟩ (by simp [bendsOf]) h
end Go.Proofs.YtbdkkkpgjcfdgaaDoor.ParM

namespace Go.Proofs.YtbdkkkpgjcfdgaaDoor.ParM
open Go.Lib Go.Proofs.YtbdkkkpgjcfdgaaDoor.LexM

/-! Lines and words put together. -/
theorem pieces_no (c : UInt8) : ∀ p : List UInt8, c ∉ p → pieces c p = [p]
  | [], _ => rfl
  | b :: t, h => by
    have hb : b ≠ c := fun e => h (by simp [e])
    have ih := pieces_no c t (fun e => h (by simp [e]))
    simp only [pieces, List.cons.injEq] at ih
    simp [pieces, pr, hb, ih.1, ih.2]
theorem pieces_cons (c : UInt8) : ∀ p t : List UInt8, c ∉ p → pieces c (p ++ c :: t) = p :: pieces c t
  | [], t, _ => by simp [pieces, pr]
  | b :: p, t, h => by
    have hb : b ≠ c := fun e => h (by simp [e])
    have ih := pieces_cons c p t (fun e => h (by simp [e]))
    simp only [pieces, List.cons.injEq] at ih
    simp [pieces, pr, hb, ih.1, ih.2]
theorem pieces_both (c : UInt8) : ∀ p t : List UInt8, pieces c (p ++ c :: t) = pieces c p ++ pieces c t
  | [], t => by simp [pieces, pr]
  | b :: p, t => by
    have ih := pieces_both c p t
    simp only [pieces, List.cons_append, List.cons.injEq] at ih ⊢
    by_cases hb : b = c
    · subst hb; simp [pr, ih.1, ih.2]
    · simp [pr, hb, ih.1, ih.2]
theorem pieces_glue (c : UInt8) : ∀ L : List (List UInt8), (∀ p ∈ L, c ∉ p) → pieces c (glue c L) = L ++ [[]]
  | [], _ => rfl
  | p :: L, h => by
    rw [glue, pieces_cons c p _ (h p (by simp)), pieces_glue c L (fun q hq => h q (by simp [hq]))]; rfl
theorem ps_glue {c : UInt8} {L : List (List UInt8)} (h : ∀ p ∈ L, c ∉ p) : ps c (glue c L) = (L, []) := by
  have e := pieces_glue c L h
  rw [pieces_ps] at e
  have e2 := List.append_inj' e rfl
  exact Prod.ext e2.1 (by simpa using e2.2)
theorem lines_glue {L : List (List UInt8)} (h : ∀ p ∈ L, (10 : UInt8) ∉ p) (hl : (glue 10 L).length ≤ 1048576) : lnE (glue 10 L) = 0 ∧ lnL (glue 10 L) = L := by
  have e : lnE (glue 10 L) = 0 := by unfold lnE; rw [if_neg (by omega), ps_glue h]; rfl
  refine ⟨e, ?_⟩
  unfold lnL; rw [if_pos e, ps_glue h]
/-- Words with a blank between any two. -/
def spc : List (List UInt8) → List UInt8
  | [] => []
  | [p] => p
  | p :: q :: r => p ++ 32 :: spc (q :: r)
theorem pieces_spc : ∀ W : List (List UInt8), W ≠ [] → (∀ p ∈ W, (32 : UInt8) ∉ p) → pieces 32 (spc W) = W
  | [], h, _ => absurd rfl h
  | [p], _, h => pieces_no 32 p (h p (by simp))
  | p :: q :: r, _, h => by
    rw [spc, pieces_cons 32 p _ (h p (by simp)), pieces_spc (q :: r) (by simp) (fun x hx => h x (by simp [hx]))]
theorem wd_spc {W : List (List UInt8)} (hW : W ≠ []) (h : ∀ p ∈ W, (32 : UInt8) ∉ p) (h0 : [] ∉ W) : wdOk (spc W) = true ∧ wdL (spc W) = W := by
  have e := pieces_spc W hW h
  have ok : wdOk (spc W) = true := by rw [wdOk_mem, e, decide_eq_false h0]; rfl
  exact ⟨ok, by unfold wdL; rw [ok, e]; rfl⟩

/-! Numbers, letters. -/
theorem itoa_nn {v : Int} (h : 0 ≤ v) : itoa v = decDigits v.toNat := by
  have := itoa_nonneg v.toNat
  rwa [show ((v.toNat : Nat) : Int) = v by omega] at this
theorem num_itoa {v : Int} (h0 : 0 ≤ v) (h1 : v ≤ 9999999) : numOk (itoa v) 9999999 = true ∧ numVal (itoa v) 9999999 = v := by
  have e : numOk (itoa v) 9999999 = true := by
    unfold numOk
    rw [itoa_nn h0, dec_isNum, dec_val, decide_eq_true (by omega), decide_eq_true (by omega)]; rfl
  refine ⟨e, ?_⟩
  unfold numVal
  rw [e, itoa_nn h0, dec_val, if_pos rfl]; omega
theorem itoa_mem {v : Int} (h0 : 0 ≤ v) : ∀ b ∈ itoa v, isDigit b = true := by
  rw [itoa_nn h0]; exact List.all_eq_true.1 (dec_digits _)
theorem itoa_free {v : Int} (h0 : 0 ≤ v) (c : UInt8) (hc : isDigit c = false) : c ∉ itoa v := by
  intro h; rw [itoa_mem h0 c h] at hc; cases hc
theorem itoa_ne {v : Int} (h0 : 0 ≤ v) : itoa v ≠ [] := by rw [itoa_nn h0]; exact dec_ne _
theorem itoa_short {v : Int} (h0 : 0 ≤ v) (h1 : v ≤ 9999999) : (itoa v).length ≤ 7 := by
  rw [itoa_nn h0]; exact (dec_seven _).2 (by omega)
/-- A direction's letter. -/
def letD (d : Int) : List UInt8 := if d = 0 then [69] else if d = 1 then [78] else if d = 2 then [87] else if d = 3 then [83] else []
theorem letD_cases {d : Int} (h0 : 0 ≤ d) (h3 : d ≤ 3) : d = 0 ∨ d = 1 ∨ d = 2 ∨ d = 3 := by omega
theorem dir_letD {d : Int} (h0 : 0 ≤ d) (h3 : d ≤ 3) : dirOf (letD d) = d ∧ letD d ≠ [] ∧ (32 : UInt8) ∉ letD d ∧ (10 : UInt8) ∉ letD d ∧ (letD d).length = 1 := by
  rcases letD_cases h0 h3 with rfl | rfl | rfl | rfl <;> exact ⟨by decide, by decide, by decide, by decide, by decide⟩
theorem turns_free {b : List UInt8} (h : isTurns b = true) (c : UInt8) (hc : c ≠ 76) (hd : c ≠ 82) : c ∉ b := by
  intro hm
  have := List.all_eq_true.1 h c hm
  simp only [Bool.or_eq_true, decide_eq_true_eq] at this
  rcases this with h | h
  · exact hc h
  · exact hd h

/-! An edge's line. -/
def edgWs (e : Edg) : List (List UInt8) := [itoa e.1, letD e.2.2.1, itoa e.2.1] ++ (if e.2.2.2 = [] then [] else [e.2.2.2])
def edgL (e : Edg) : List UInt8 := spc (edgWs e)
theorem edgL_eq (e : Edg) : edgL e = itoa e.1 ++ [32] ++ letD e.2.2.1 ++ [32] ++ itoa e.2.1 ++ (if e.2.2.2 = [] then [] else 32 :: e.2.2.2) := by
  unfold edgL edgWs
  by_cases h : e.2.2.2 = []
  · rw [if_pos h, if_pos h]; simp [spc]
  · rw [if_neg h, if_neg h]; simp [spc]
theorem okE_small {n : Nat} {e : Edg} (h : okE n e) (hn : n ≤ 4096) : 0 ≤ e.1 ∧ e.1 ≤ 9999999 ∧ 0 ≤ e.2.1 ∧ e.2.1 ≤ 9999999 := by
  obtain ⟨h1, h2, h3, h4, _⟩ := h; omega
theorem wd_edgL {n : Nat} {e : Edg} (h : okE n e) (hn : n ≤ 4096) : wdL (edgL e) = edgWs e := by
  obtain ⟨s1, _, s3, _⟩ := okE_small h hn
  obtain ⟨_, _, _, _, h5, h6, h7⟩ := h
  have d := dir_letD h5 h6
  refine (wd_spc (by simp [edgWs]) (fun p hp => ?_) (fun hp => ?_)).2
  · unfold edgWs at hp
    simp only [List.mem_append, List.mem_cons, List.not_mem_nil, or_false] at hp
    rcases hp with (rfl | rfl | rfl) | hp
    · exact itoa_free s1 32 (by decide)
    · exact d.2.2.1
    · exact itoa_free s3 32 (by decide)
    · split at hp
      · cases hp
      · obtain rfl := List.mem_singleton.1 hp
        exact turns_free h7 32 (by decide) (by decide)
  · unfold edgWs at hp
    simp only [List.mem_append, List.mem_cons, List.not_mem_nil, or_false] at hp
    rcases hp with (hp | hp | hp) | hp
    · exact itoa_ne s1 hp.symm
    · exact d.2.1 hp.symm
    · exact itoa_ne s3 hp.symm
    · split at hp
      · cases hp
      · rename_i hb
        exact hb (List.mem_singleton.1 hp).symm
theorem vtx_itoa {n : Nat} {v : Int} (h0 : 0 ≤ v) (h1 : v < n) (hn : n ≤ 4096) : vtxE n (itoa v) = 0 ∧ numVal (itoa v) 9999999 = v := by
  have h := num_itoa h0 (by omega : v ≤ 9999999)
  refine ⟨?_, h.2⟩
  unfold vtxE
  rw [if_pos h.1, h.2, if_pos h1]
theorem edg_back {n : Nat} {e : Edg} (h : okE n e) (hn : n ≤ 4096) : edgE n (edgL e) = 0 ∧ edgV n (edgL e) = e := by
  have hw := wd_edgL h hn
  obtain ⟨h1, h2, h3, h4, h5, h6, h7⟩ := h
  have d := dir_letD h5 h6
  have v1 := vtx_itoa h1 h2 hn
  have v2 := vtx_itoa h3 h4 hn
  have hz : ∀ t, isTurns t = true → edgW n (itoa e.1) (letD e.2.2.1) (itoa e.2.1) t = 0 := by
    intro t ht
    unfold edgW
    rw [v1.1, v2.1, d.1, ht]
    simp; omega
  have hx : ∀ t, isTurns t = true → edgX n (itoa e.1) (letD e.2.2.1) (itoa e.2.1) t = (e.1, e.2.1, e.2.2.1, t) := by
    intro t ht
    unfold edgX
    rw [if_pos (hz t ht), v1.2, v2.2, d.1]
  unfold edgE edgV
  rw [hw]
  unfold edgWs
  by_cases hb : e.2.2.2 = []
  · rw [if_pos hb]
    simp only [List.append_nil]
    refine ⟨hz [] rfl, ?_⟩
    rw [hx [] rfl, ← hb]
  · rw [if_neg hb]
    simp only [List.cons_append, List.nil_append]
    exact ⟨hz _ h7, hx _ h7⟩
theorem edgL_end {n : Nat} {e : Edg} (h : okE n e) (hn : n ≤ 4096) : edgL e ≠ endW := by
  intro hc
  have hw := wd_edgL h hn
  rw [hc] at hw
  have e2 : wdL endW = [endW] := by decide +kernel
  rw [e2] at hw
  have := congrArg List.length hw
  unfold edgWs at this
  simp at this
theorem mem_spc (c : UInt8) (hc : c ≠ 32) : ∀ W : List (List UInt8), (∀ p ∈ W, c ∉ p) → c ∉ spc W
  | [], _ => by simp [spc]
  | [p], h => h p (by simp)
  | p :: q :: r, h => by
    have ih := mem_spc c hc (q :: r) (fun x hx => h x (by simp [hx]))
    simp only [spc, List.mem_append, List.mem_cons, not_or]
    exact ⟨h p (by simp), hc, ih⟩
theorem edgL_free {n : Nat} {e : Edg} (h : okE n e) (hn : n ≤ 4096) : (10 : UInt8) ∉ edgL e := by
  obtain ⟨s1, _, s3, _⟩ := okE_small h hn
  obtain ⟨_, _, _, _, h5, h6, h7⟩ := h
  have d := dir_letD h5 h6
  refine mem_spc 10 (by decide) _ (fun p hp => ?_)
  unfold edgWs at hp
  simp only [List.mem_append, List.mem_cons, List.not_mem_nil, or_false] at hp
  rcases hp with (rfl | rfl | rfl) | hp
  · exact itoa_free s1 10 (by decide)
  · exact d.2.2.2.1
  · exact itoa_free s3 10 (by decide)
  · split at hp
    · cases hp
    · obtain rfl := List.mem_singleton.1 hp
      exact turns_free h7 10 (by decide) (by decide)

/-! The first line. -/
def vtxL (B : List Bool) : List UInt8 := if B = [] then [45] else B.map fun b => if b = true then 98 else 112
def fstL (B : List Bool) : List UInt8 := spc [shapeW, vtxL B]
theorem vtxL_ne (B : List Bool) : vtxL B ≠ [] := by
  unfold vtxL; split
  · simp
  · rename_i h; simpa using h
theorem vtxL_mem (B : List Bool) : ∀ c ∈ vtxL B, c = 45 ∨ c = 98 ∨ c = 112 := by
  intro c hc
  unfold vtxL at hc
  split at hc
  · exact Or.inl (List.mem_singleton.1 hc)
  · obtain ⟨b, _, rfl⟩ := List.mem_map.1 hc
    split
    · exact Or.inr (Or.inl rfl)
    · exact Or.inr (Or.inr rfl)
theorem vtxL_free (B : List Bool) (c : UInt8) (h1 : c ≠ 45) (h2 : c ≠ 98) (h3 : c ≠ 112) : c ∉ vtxL B := by
  intro h; rcases vtxL_mem B c h with h | h | h
  · exact h1 h
  · exact h2 h
  · exact h3 h
theorem wd_fstL (B : List Bool) : wdL (fstL B) = [shapeW, vtxL B] := by
  refine (wd_spc (by simp) (fun p hp => ?_) (fun hp => ?_)).2
  · simp only [List.mem_cons, List.not_mem_nil, or_false] at hp
    rcases hp with rfl | rfl
    · decide
    · exact vtxL_free B 32 (by decide) (by decide) (by decide)
  · simp only [List.mem_cons, List.not_mem_nil, or_false] at hp
    rcases hp with hp | hp
    · exact absurd hp (by decide)
    · exact vtxL_ne B hp.symm
theorem fstL_free (B : List Bool) : (10 : UInt8) ∉ fstL B := by
  refine mem_spc 10 (by decide) _ (fun p hp => ?_)
  simp only [List.mem_cons, List.not_mem_nil, or_false] at hp
  rcases hp with rfl | rfl
  · decide
  · exact vtxL_free B 10 (by decide) (by decide) (by decide)
theorem map_box (B : List Bool) : boxesOf (B.map fun b => if b = true then (98 : UInt8) else 112) = B := by
  unfold boxesOf
  rw [List.map_map]
  conv => rhs; rw [← List.map_id B]
  refine List.map_congr_left fun b _ => ?_
  cases b <;> decide
theorem all_box (B : List Bool) : isBox (B.map fun b => if b = true then (98 : UInt8) else 112) = true := by
  unfold isBox
  rw [List.all_map, List.all_eq_true]
  intro b _
  cases b <;> decide
theorem fstW_vtxL (B : List Bool) : fstW (vtxL B) = (if 4096 < B.length then 6 else 0) ∧ fstV (vtxL B) = B := by
  by_cases h0 : B = []
  · subst h0; exact ⟨rfl, rfl⟩
  · have e : vtxL B = B.map fun b => if b = true then (98 : UInt8) else 112 := by unfold vtxL; rw [if_neg h0]
    have hne : vtxL B ≠ [45] := by
      rw [e]
      intro hc
      cases B with
      | nil => exact h0 rfl
      | cons b t =>
        simp only [List.map_cons, List.cons.injEq] at hc
        have := hc.1
        split at this <;> exact absurd this (by decide)
    unfold fstW fstV
    rw [if_neg hne, if_neg hne, e, if_pos (all_box B), map_box, List.length_map]
    exact ⟨rfl, rfl⟩
theorem fst_back {B : List Bool} (h : B.length ≤ 4096) : fstE (fstL B) = 0 ∧ fstB (fstL B) = B := by
  have hw := wd_fstL B
  have hf := fstW_vtxL B
  rw [if_neg (by omega)] at hf
  unfold fstE fstB
  rw [hw]
  simp only []
  rw [if_pos trivial, if_pos ⟨trivial, hf.1⟩]
  exact hf
theorem fst_many {B : List Bool} (h : 4096 < B.length) : fstE (fstL B) = 6 := by
  have hw := wd_fstL B
  have hf := fstW_vtxL B
  rw [if_pos h] at hf
  unfold fstE
  rw [hw]
  simp only []
  rw [if_pos trivial]
  exact hf.1
/-- A first line with more words. -/
theorem fst_more (B : List Bool) (t : List UInt8) : fstE (fstL B ++ 32 :: t) = 4 := by
  have hp : pieces 32 (fstL B ++ 32 :: t) = [shapeW, vtxL B] ++ pieces 32 t := by
    have h := wd_fstL B
    rw [pieces_both]
    congr 1
    refine pieces_spc _ (by simp) (fun p hp => ?_)
    simp only [List.mem_cons, List.not_mem_nil, or_false] at hp
    rcases hp with rfl | rfl
    · decide
    · exact vtxL_free B 32 (by decide) (by decide) (by decide)
  unfold fstE wdL
  cases wdOk (fstL B ++ 32 :: t) with
  | false => rfl
  | true =>
    rw [hp]
    simp [pieces]

/-! A whole text. -/
def linL (B : List Bool) (E : List Edg) : List (List UInt8) := fstL B :: E.map edgL ++ [endW]
def printS (B : List Bool) (E : List Edg) : List UInt8 := glue 10 (linL B E)
theorem goE_edges {B : List Bool} (hB : B.length ≤ 4096) : ∀ (E : List Edg) (T : List (List UInt8)) (i : Nat) (E0 : List Edg) (b0 : Nat), (E0 ++ E).length ≤ 4096 → b0 + bendsOf E ≤ 4096 → (∀ e ∈ E, okE B.length e) →
    goE B.length (E.map edgL ++ T) i E0 b0 = goE B.length T (i + E.length) (E0 ++ E) (b0 + bendsOf E)
  | [], T, i, E0, b0, _, _, _ => by simp [bendsOf]
  | e :: E, T, i, E0, b0, h1, h2, h3 => by
    have he := h3 e (by simp)
    have hk := edg_back he hB
    have hn := edgL_end he hB
    have hbe : bendsOf (e :: E) = e.2.2.2.length + bendsOf E := by simp [bendsOf]
    rw [List.map_cons, List.cons_append, goE, if_neg hn, if_neg (by rw [hk.1]; simp), hk.2]
    rw [if_neg (by rw [List.length_append, List.length_cons] at h1; omega)]
    rw [goE_edges hB E T (i + 1) (E0 ++ [e]) _ (by simpa using h1) (by omega) (fun x hx => h3 x (by simp [hx]))]
    rw [List.length_cons, hbe]
    congr 1
    · omega
    · simp
    · omega
theorem lin_free {B : List Bool} {E : List Edg} (hM : May B E) : ∀ p ∈ fstL B :: E.map edgL, (10 : UInt8) ∉ p := by
  intro p hp
  rcases List.mem_cons.1 hp with rfl | hp
  · exact fstL_free B
  · obtain ⟨e, he, rfl⟩ := List.mem_map.1 hp
    exact edgL_free (hM.ok e he) hM.vs
/-- What follows the edges' lines decides. -/
theorem par_lines {B : List Bool} {E : List Edg} (hM : May B E) (T : List (List UInt8)) (hT : ∀ p ∈ T, (10 : UInt8) ∉ p) (hl : (glue 10 (fstL B :: E.map edgL ++ T)).length ≤ 1048576) :
    par (glue 10 (fstL B :: E.map edgL ++ T)) = ((goE B.length T (1 + E.length) E (bendsOf E)).1, (goE B.length T (1 + E.length) E (bendsOf E)).2.1, if (goE B.length T (1 + E.length) E (bendsOf E)).1 = 0 then B else [], (goE B.length T (1 + E.length) E (bendsOf E)).2.2) := by
  have hL : ∀ p ∈ fstL B :: E.map edgL ++ T, (10 : UInt8) ∉ p := by
    intro p hp
    rcases List.mem_append.1 hp with hp | hp
    · exact lin_free hM p hp
    · exact hT p hp
  obtain ⟨e1, e2⟩ := lines_glue hL hl
  have f := fst_back hM.vs
  have g := goE_edges hM.vs E T 1 [] 0 (by simpa using hM.es) (by have := hM.bs; omega) hM.ok
  simp only [List.nil_append, Nat.zero_add] at g
  unfold par
  rw [e1, e2, if_neg (by simp)]
  simp only [List.cons_append]
  rw [f.1, if_neg (by simp), f.2, g]
theorem par_print {B : List Bool} {E : List Edg} (hM : May B E) (hl : (printS B E).length ≤ 1048576) : par (printS B E) = (0, 0, B, E) := by
  have h := par_lines hM [endW] (by simp; decide) hl
  unfold printS linL
  rw [h]
  simp [goE]
theorem par_short {B : List Bool} {E : List Edg} (hM : May B E) (hl : (glue 10 (fstL B :: E.map edgL)).length ≤ 1048576) : (par (glue 10 (fstL B :: E.map edgL))).1 = 4 ∧ (par (glue 10 (fstL B :: E.map edgL))).2.1 = E.length + 2 := by
  have h := par_lines hM [] (by simp) (by simpa using hl)
  rw [List.append_nil] at h
  rw [h]
  simp only [goE]
  exact ⟨trivial, by omega⟩
theorem par_twice {B : List Bool} {E : List Edg} (hM : May B E) (hl : (printS B E ++ glue 10 [endW]).length ≤ 1048576) : (par (printS B E ++ glue 10 [endW])).1 = 4 ∧ (par (printS B E ++ glue 10 [endW])).2.1 = E.length + 3 := by
  have e : printS B E ++ glue 10 [endW] = glue 10 (fstL B :: E.map edgL ++ [endW, endW]) := by
    unfold printS linL
    rw [← glue_append, List.append_assoc]; rfl
  rw [e] at hl ⊢
  rw [par_lines hM [endW, endW] (by simp; decide) hl]
  simp only [goE]
  refine ⟨rfl, ?_⟩
  simp; omega
/-- Two lines turned into one. -/
theorem par_joined {B : List Bool} {E : List Edg} (hM : May B E) (hl : (printS B E).length ≤ 1048576) :
    (par (fstL B ++ 32 :: glue 10 (E.map edgL ++ [endW]))).1 = 4 := by
  obtain ⟨p, T, hT⟩ : ∃ p T, E.map edgL ++ [endW] = p :: T := by
    cases E with
    | nil => exact ⟨_, _, rfl⟩
    | cons e E => exact ⟨_, _, rfl⟩
  have hfree : ∀ q ∈ p :: T, (10 : UInt8) ∉ q := by
    rw [← hT]
    intro q hq
    rcases List.mem_append.1 hq with hq | hq
    · exact lin_free hM q (by simp [hq])
    · obtain rfl := List.mem_singleton.1 hq; decide
  have hlen : (fstL B ++ 32 :: glue 10 (E.map edgL ++ [endW])).length = (printS B E).length := by
    unfold printS linL
    rw [List.cons_append, glue]; simp
  rw [← hlen] at hl
  rw [hT] at hl ⊢
  have e : fstL B ++ 32 :: glue 10 (p :: T) = glue 10 ((fstL B ++ 32 :: p) :: T) := by simp [glue]
  rw [e] at hl ⊢
  obtain ⟨e1, e2⟩ := lines_glue (L := (fstL B ++ 32 :: p) :: T) (fun q hq => by
    rcases List.mem_cons.1 hq with rfl | hq
    · simp only [List.mem_append, List.mem_cons, not_or]
      exact ⟨fstL_free B, by decide, hfree p (by simp)⟩
    · exact hfree q (by simp [hq])) hl
  unfold par
  rw [e1, e2, if_neg (by simp)]
  simp only []
  rw [fst_more, if_pos (by decide)]
theorem edgL_len {n : Nat} {e : Edg} (h : okE n e) (hn : n ≤ 4096) : (edgL e).length ≤ 18 + e.2.2.2.length := by
  obtain ⟨s1, s2, s3, s4⟩ := okE_small h hn
  obtain ⟨_, _, _, _, h5, h6, _⟩ := h
  have d := (dir_letD h5 h6).2.2.2.2
  have i1 := itoa_short s1 s2
  have i2 := itoa_short s3 s4
  rw [edgL_eq]
  simp only [List.length_append, List.length_cons, List.length_nil, d]
  split
  · simp; omega
  · simp; omega
theorem glue_len (c : UInt8) : ∀ L : List (List UInt8), (glue c L).length = (L.map fun p => p.length + 1).sum
  | [] => rfl
  | p :: L => by
    rw [glue, List.length_append, List.length_cons, glue_len c L, List.map_cons, List.sum_cons]; omega
theorem edges_len {n : Nat} (hn : n ≤ 4096) : ∀ E : List Edg, (∀ e ∈ E, okE n e) → (glue 10 (E.map edgL)).length ≤ 19 * E.length + bendsOf E
  | [], _ => by simp [glue, bendsOf]
  | e :: E, h => by
    have ih := edges_len hn E (fun x hx => h x (by simp [hx]))
    have h1 := edgL_len (h e (by simp)) hn
    have hbe : bendsOf (e :: E) = e.2.2.2.length + bendsOf E := by simp [bendsOf]
    rw [List.map_cons, glue, List.length_append, List.length_cons, List.length_cons, hbe]
    omega
theorem fstL_len (B : List Bool) : (fstL B).length ≤ 7 + B.length := by
  have h : (vtxL B).length ≤ 1 + B.length := by
    unfold vtxL; split
    · simp
    · simp
  unfold fstL
  simp [spc, shapeW]
  omega
theorem print_len {B : List Bool} {E : List Edg} (hM : May B E) : (printS B E).length ≤ 90000 := by
  have h1 := edges_len hM.vs E hM.ok
  have h2 := fstL_len B
  have := hM.vs
  have := hM.es
  have := hM.bs
  unfold printS linL
  rw [glue_append, List.length_append, glue, List.length_append, List.length_cons]
  have e : (glue 10 [endW]).length = 4 := by decide
  omega
end Go.Proofs.YtbdkkkpgjcfdgaaDoor.ParM

namespace Go.Proofs.YtbdkkkpgjcfdgaaDoor.ParM
open Go.Lib Go.Proofs.YtbdkkkpgjcfdgaaDoor.LexM

/-! Printed again. -/
theorem glue_lnL {l : List UInt8} (h : lnE l = 0) : glue 10 (lnL l) = l := by
  have h2 : (ps 10 l).2 = [] := by
    unfold lnE at h
    split at h
    · cases h
    · split at h
      · rename_i h3; exact List.isEmpty_iff.1 h3
      · cases h
  unfold lnL
  rw [if_pos h]
  have := glue_ps 10 l
  rw [h2, List.append_nil] at this
  exact this
theorem spc_pieces : ∀ l : List UInt8, spc (pieces 32 l) = l
  | [] => rfl
  | b :: t => by
    have ih := spc_pieces t
    by_cases h : b = 32
    · subst h
      have e : pieces 32 (32 :: t) = [] :: pieces 32 t := by simp [pieces, pr]
      rw [e]
      have e2 : pieces 32 t = (pr 32 t).1 :: (pr 32 t).2 := rfl
      rw [e2] at ih ⊢
      rw [spc, ih]; rfl
    · have e : pieces 32 (b :: t) = (b :: (pr 32 t).1) :: (pr 32 t).2 := by simp [pieces, pr, h]
      have e2 : pieces 32 t = (pr 32 t).1 :: (pr 32 t).2 := rfl
      rw [e]
      rw [e2] at ih
      generalize (pr 32 t).2 = r at *
      cases r with
      | nil =>
        simp only [spc] at ih ⊢
        rw [ih]
      | cons q r =>
        simp only [spc] at ih ⊢
        rw [List.cons_append, ih]
/-- A line of words: they are put together again, none is empty. -/
theorem spc_wdL {l : List UInt8} (h : wdL l ≠ []) : spc (wdL l) = l ∧ [] ∉ wdL l := by
  unfold wdL at h ⊢
  cases hk : wdOk l with
  | false => rw [hk] at h; exact absurd rfl h
  | true =>
    rw [hk] at h
    rw [if_pos rfl]
    refine ⟨spc_pieces l, ?_⟩
    rw [wdOk_mem] at hk
    simpa using hk
theorem itoa_numVal {p : List UInt8} (h : numOk p 9999999 = true) : itoa (numVal p 9999999) = p := by
  unfold numVal
  rw [h, if_pos rfl, itoa_nonneg]
  unfold numOk isNum at h
  simp only [Bool.and_eq_true] at h
  exact canon_dec p h.1.1
theorem vtx_back {n : Nat} {p : List UInt8} (h : vtxE n p = 0) : itoa (numVal p 9999999) = p := by
  unfold vtxE at h
  split at h
  · rename_i h1; exact itoa_numVal h1
  · cases h
theorem letD_dirOf {d : List UInt8} (h : dirOf d ≠ -1) : letD (dirOf d) = d := by
  unfold dirOf at h ⊢
  split
  · rename_i e; rw [e]; rfl
  · split
    · rename_i e; rw [e]; rfl
    · split
      · rename_i e; rw [e]; rfl
      · split
        · rename_i e; rw [e]; rfl
        · rename_i h1 h2 h3 h4
          rw [if_neg h1, if_neg h2, if_neg h3, if_neg h4] at h
          exact absurd rfl h
theorem edgW_zero {n : Nat} {a d b t : List UInt8} (h : edgW n a d b t = 0) : vtxE n a = 0 ∧ dirOf d ≠ -1 ∧ vtxE n b = 0 ∧ isTurns t = true := by
  unfold edgW at h
  split at h
  · rename_i h1; exact absurd h h1
  · rename_i h1
    split at h
    · cases h
    · rename_i h2
      split at h
      · rename_i h3; exact absurd h h3
      · rename_i h3
        split at h
        · rename_i h4; exact ⟨by omega, h2, by omega, h4⟩
        · cases h
theorem edg_line {n : Nat} {l : List UInt8} (h : edgE n l = 0) : edgL (edgV n l) = l := by
  have hne : wdL l ≠ [] := by
    intro h0
    unfold edgE at h
    rw [h0] at h
    cases h
  obtain ⟨hs, h0⟩ := spc_wdL hne
  unfold edgE at h
  unfold edgV
  split at h
  · rename_i a d b hw
    obtain ⟨v1, v2, v3, _⟩ := edgW_zero h
    rw [hw] at hs
    unfold edgX
    rw [if_pos h]
    unfold edgL edgWs
    simp only
    rw [vtx_back v1, vtx_back v3, letD_dirOf v2]
    simpa using hs
  · rename_i a d b t hw
    obtain ⟨v1, v2, v3, _⟩ := edgW_zero h
    rw [hw] at hs h0
    have ht : t ≠ [] := fun e => h0 (by rw [e]; simp)
    unfold edgX
    rw [if_pos h]
    unfold edgL edgWs
    simp only
    rw [vtx_back v1, vtx_back v3, letD_dirOf v2, if_neg ht]
    exact hs
  · cases h
theorem map_boxesOf : ∀ p : List UInt8, isBox p = true → (boxesOf p).map (fun b => if b = true then (98 : UInt8) else 112) = p
  | [], _ => rfl
  | b :: t, h => by
    unfold isBox at h
    rw [List.all_cons, Bool.and_eq_true] at h
    have ih := map_boxesOf t h.2
    unfold boxesOf at ih ⊢
    rw [List.map_cons, List.map_cons, ih]
    congr 1
    have h1 := h.1
    simp only [Bool.or_eq_true, decide_eq_true_eq] at h1
    rcases h1 with rfl | rfl
    · decide
    · decide
theorem fst_line {l : List UInt8} (h : fstE l = 0) : fstL (fstB l) = l := by
  have hne : wdL l ≠ [] := by
    intro h0
    unfold fstE at h
    rw [h0] at h
    cases h
  obtain ⟨hs, h0⟩ := spc_wdL hne
  unfold fstE at h
  unfold fstB
  split at h
  · rename_i a p hw
    rw [hw] at hs h0
    split at h
    · rename_i ha
      subst ha
      rw [if_pos ⟨rfl, h⟩]
      have hp : p ≠ [] := fun e => h0 (by rw [e]; simp)
      have hv : vtxL (fstV p) = p := by
        unfold fstW at h
        unfold fstV
        by_cases h1 : p = [45]
        · rw [if_pos h1, h1]; rfl
        · rw [if_neg h1] at h ⊢
          split at h
          · rename_i hb
            have hb0 : boxesOf p ≠ [] := by unfold boxesOf; simpa using hp
            unfold vtxL
            rw [if_neg hb0]
            exact map_boxesOf p hb
          · cases h
      unfold fstL
      rw [hv]
      exact hs
    · cases h
  · cases h
theorem goE_lines (n : Nat) : ∀ (L : List (List UInt8)) (i : Nat) (E : List Edg) (b : Nat), (goE n L i E b).1 = 0 → ∃ X : List Edg, (goE n L i E b).2.2 = E ++ X ∧ L = X.map edgL ++ [endW]
  | [], i, E, b, h => by unfold goE at h; cases h
  | l :: ls, i, E, b, h => by
    unfold goE at h ⊢
    split
    · rename_i h1
      rw [if_pos h1] at h
      split
      · rename_i h2
        exact ⟨[], by simp, by simp [h1, h2]⟩
      · rename_i h2; rw [if_neg h2] at h; cases h
    · rename_i h1
      rw [if_neg h1] at h
      split
      · rename_i h2; rw [if_pos h2] at h; exact absurd h h2
      · rename_i h2
        rw [if_neg h2] at h
        split
        · rename_i h3; rw [if_pos h3] at h; cases h
        · rename_i h3
          rw [if_neg h3] at h
          obtain ⟨X, e1, e2⟩ := goE_lines n ls _ _ _ h
          have hl := edg_line (n := n) (l := l) (by omega)
          exact ⟨edgV n l :: X, by rw [e1]; simp, by rw [List.map_cons, hl, e2]; rfl⟩
/-- What a text is parsed to is printed as that text. -/
theorem print_par {s : List UInt8} (h : (par s).1 = 0) : printS (par s).2.2.1 (par s).2.2.2 = s := by
  unfold par at h ⊢
  split
  · rename_i h0; rw [if_pos h0] at h; exact absurd h h0
  · rename_i h0
    rw [if_neg h0] at h
    have hz : lnE s = 0 := by omega
    split
    · rename_i hl; rw [hl] at h; cases h
    · rename_i l ls hl
      rw [hl] at h
      simp only [] at h
      split
      · rename_i h1; rw [if_pos h1] at h; exact absurd h h1
      · rename_i h1
        rw [if_neg h1] at h
        simp only [] at h ⊢
        rw [if_pos h]
        obtain ⟨X, e1, e2⟩ := goE_lines _ ls 1 [] 0 h
        rw [e1, List.nil_append]
        have hf := fst_line (l := l) (by omega)
        have hg := glue_lnL hz
        rw [hl, e2] at hg
        unfold printS linL
        rw [hf]
        exact hg

/-! An edge from its other end. -/
/-- What a bend adds to a direction. -/
def addT (b : UInt8) : Int := if b = 76 then 1 else 3
def sumT (l : List UInt8) : Int := (l.map addT).sum
def flipT (b : UInt8) : UInt8 := if b = 76 then 82 else 76
def backT (l : List UInt8) : List UInt8 := (l.map flipT).reverse
/-- The direction in which an edge comes to its end. -/
def lastT (d : Int) (l : List UInt8) : Int := (d + sumT l) % 4
def backE (e : Edg) : Edg := (e.2.1, e.1, (lastT e.2.2.1 e.2.2.2 + 2) % 4, backT e.2.2.2)
theorem sumT_snoc (l : List UInt8) (b : UInt8) : sumT (l ++ [b]) = sumT l + addT b := by simp [sumT, List.sum_append]
theorem backT_turns (l : List UInt8) : isTurns (backT l) = true := by
  unfold isTurns backT
  rw [List.all_reverse, List.all_map, List.all_eq_true]
  intro b _
  unfold flipT
  by_cases h : b = 76
  · simp [h]
  · simp [h]
theorem backT_len (l : List UInt8) : (backT l).length = l.length := by simp [backT]
theorem backT_back : ∀ l : List UInt8, isTurns l = true → backT (backT l) = l := by
  intro l h
  unfold backT
  rw [List.map_reverse, List.reverse_reverse, List.map_map]
  conv => rhs; rw [← List.map_id l]
  refine List.map_congr_left fun b hb => ?_
  have := List.all_eq_true.1 h b hb
  simp only [Bool.or_eq_true, decide_eq_true_eq] at this
  rcases this with rfl | rfl <;> decide
theorem sumT_map : ∀ l : List UInt8, isTurns l = true → sumT (l.map flipT) = 4 * (l.length : Int) - sumT l
  | [], _ => rfl
  | b :: t, h => by
    unfold isTurns at h
    rw [List.all_cons, Bool.and_eq_true] at h
    have ih := sumT_map t h.2
    have e : ∀ (x : UInt8) (m : List UInt8), sumT (x :: m) = addT x + sumT m := fun x m => by simp [sumT]
    have hb : addT (flipT b) = 4 - addT b := by
      have h1 := h.1
      simp only [Bool.or_eq_true, decide_eq_true_eq] at h1
      rcases h1 with rfl | rfl <;> decide
    rw [List.map_cons, e, e, ih, hb, List.length_cons]
    omega
theorem sumT_rev (l : List UInt8) : sumT l.reverse = sumT l := by
  unfold sumT
  rw [List.map_reverse]
  exact List.sum_reverse _
theorem sumT_back {l : List UInt8} (h : isTurns l = true) : sumT (backT l) = 4 * (l.length : Int) - sumT l := by
  unfold backT
  rw [sumT_rev, sumT_map l h]
theorem back_back {e : Edg} (h0 : 0 ≤ e.2.2.1) (h3 : e.2.2.1 ≤ 3) (h : isTurns e.2.2.2 = true) : backE (backE e) = e := by
  obtain ⟨f, t, d, l⟩ := e
  simp only at h0 h3 h
  unfold backE
  simp only
  rw [backT_back l h]
  have hs := sumT_back h
  refine Prod.ext rfl (Prod.ext rfl (Prod.ext ?_ rfl))
  unfold lastT
  rw [hs]
  show ((((d + sumT l) % 4 + 2) % 4 + (4 * (l.length : Int) - sumT l)) % 4 + 2) % 4 = d
  omega

/-! Texts of two shapes. -/
theorem print_inj {B C : List Bool} {E F : List Edg} (hM : May B E) (hN : May C F) (h : printS B E = printS C F) : B = C ∧ E = F := by
  have h1 := par_print hM (Nat.le_trans (print_len hM) (by decide))
  have h2 := par_print hN (Nat.le_trans (print_len hN) (by decide))
  rw [h, h2] at h1
  simp only [Prod.mk.injEq] at h1
  exact ⟨h1.2.2.1.symm, h1.2.2.2.symm⟩
theorem print_count {B : List Bool} {E : List Edg} (hM : May B E) : (printS B E).count 10 = E.length + 2 := by
  have h := lin_free hM
  have g : ∀ L : List (List UInt8), (∀ p ∈ L, (10 : UInt8) ∉ p) → (glue 10 L).count 10 = L.length := by
    intro L
    induction L with
    | nil => intro _; rfl
    | cons p L ih =>
      intro hp
      rw [glue, List.count_append, List.count_cons_self, ih (fun q hq => hp q (by simp [hq])), List.count_eq_zero.2 (hp p (by simp)), List.length_cons]; omega
  unfold printS linL
  rw [g _ (fun p hp => by
    rcases List.mem_append.1 hp with hp | hp
    · exact h p hp
    · obtain rfl := List.mem_singleton.1 hp; decide)]
  simp
/-- A text of a shape: only bytes below 128. -/
theorem print_ascii {B : List Bool} {E : List Edg} (hM : May B E) : ∀ b ∈ printS B E, b.toNat < 128 := by
  have g : ∀ L : List (List UInt8), (∀ p ∈ L, ∀ b ∈ p, b.toNat < 128) → ∀ b ∈ glue 10 L, b.toNat < 128 := by
    intro L
    induction L with
    | nil => intro _ b hb; cases hb
    | cons p L ih =>
      intro hp b hb
      rw [glue] at hb
      rcases List.mem_append.1 hb with hb | hb
      · exact hp p (by simp) b hb
      · rcases List.mem_cons.1 hb with rfl | hb
        · decide
        · exact ih (fun q hq => hp q (by simp [hq])) b hb
  have s : ∀ W : List (List UInt8), (∀ p ∈ W, ∀ b ∈ p, b.toNat < 128) → ∀ b ∈ spc W, b.toNat < 128 := by
    intro W
    induction W with
    | nil => intro _ b hb; cases hb
    | cons p W ih =>
      intro hp b hb
      cases W with
      | nil => exact hp p (by simp) b hb
      | cons q r =>
        rw [spc] at hb
        rcases List.mem_append.1 hb with hb | hb
        · exact hp p (by simp) b hb
        · rcases List.mem_cons.1 hb with rfl | hb
          · decide
          · exact ih (fun q hq => hp q (by simp [hq])) b hb
  have dg : ∀ b : UInt8, isDigit b = true → b.toNat < 128 := fun b h => by
    unfold isDigit at h
    simp only [Bool.and_eq_true, decide_eq_true_eq] at h
    omega
  unfold printS linL
  refine g _ (fun p hp => ?_)
  rcases List.mem_append.1 hp with hp | hp
  · rcases List.mem_cons.1 hp with rfl | hp
    · refine s _ (fun p hp => ?_)
      simp only [List.mem_cons, List.not_mem_nil, or_false] at hp
      rcases hp with rfl | rfl
      · decide
      · intro b hb
        rcases vtxL_mem B b hb with rfl | rfl | rfl <;> decide
    · obtain ⟨e, he, rfl⟩ := List.mem_map.1 hp
      have ok := hM.ok e he
      obtain ⟨s1, _, s3, _⟩ := okE_small ok hM.vs
      obtain ⟨_, _, _, _, h5, h6, h7⟩ := ok
      refine s _ (fun p hp => ?_)
      unfold edgWs at hp
      simp only [List.mem_append, List.mem_cons, List.not_mem_nil, or_false] at hp
      rcases hp with (rfl | rfl | rfl) | hp
      · exact fun b hb => dg b (itoa_mem s1 b hb)
      · rcases letD_cases h5 h6 with e | e | e | e <;> (rw [e]; decide)
      · exact fun b hb => dg b (itoa_mem s3 b hb)
      · split at hp
        · cases hp
        · obtain rfl := List.mem_singleton.1 hp
          intro b hb
          have := List.all_eq_true.1 h7 b hb
          simp only [Bool.or_eq_true, decide_eq_true_eq] at this
          rcases this with rfl | rfl <;> decide
  · obtain rfl := List.mem_singleton.1 hp; decide
end Go.Proofs.YtbdkkkpgjcfdgaaDoor.ParM

namespace Go.Proofs.YtbdkkkpgjcfdgaaDoor.ParM
open Go.Lib Go.Proofs.YtbdkkkpgjcfdgaaDoor.LexM

def addC (b : UInt8) : Int := if b = 76 then 1 else -1
def sumC (l : List UInt8) : Int := (l.map addC).sum
theorem sumC_snoc (l : List UInt8) (b : UInt8) : sumC (l ++ [b]) = sumC l + addC b := by simp [sumC, List.sum_append]
theorem sumC_sumT : ∀ l : List UInt8, ∃ k : Int, sumT l = sumC l + 4 * k
  | [] => ⟨0, rfl⟩
  | b :: t => by
    obtain ⟨k, hk⟩ := sumC_sumT t
    have e1 : sumT (b :: t) = addT b + sumT t := by simp [sumT]
    have e2 : sumC (b :: t) = addC b + sumC t := by simp [sumC]
    rw [e1, e2, hk]
    unfold addT addC
    by_cases h : b = 76
    · rw [if_pos h, if_pos h]; exact ⟨k, by omega⟩
    · rw [if_neg h, if_neg h]; exact ⟨k + 1, by omega⟩
theorem lastC (d : Int) (l : List UInt8) : (d + sumC l) % 4 = lastT d l := by
  obtain ⟨k, hk⟩ := sumC_sumT l
  unfold lastT
  rw [hk]; omega
theorem sumC_len : ∀ l : List UInt8, -(l.length : Int) ≤ sumC l ∧ sumC l ≤ l.length
  | [] => by simp [sumC]
  | b :: t => by
    have ih := sumC_len t
    have e2 : sumC (b :: t) = addC b + sumC t := by simp [sumC]
    have hb : addC b = 1 ∨ addC b = -1 := by
      unfold addC
      by_cases h : b = 76
      · exact Or.inl (if_pos h)
      · exact Or.inr (if_neg h)
    rw [e2, List.length_cons]
    omega
/-- The direction so far. -/
theorem last_snoc (d : Int) (l : List UInt8) (b : UInt8) : lastT d (l ++ [b]) = (lastT d l + addT b) % 4 := by
  unfold lastT
  rw [sumT_snoc]; omega
theorem lastT_nil {d : Int} (h0 : 0 ≤ d) (h3 : d ≤ 3) : lastT d [] = d := by
  unfold lastT sumT
  simp
  omega
theorem lastT_range (d : Int) (l : List UInt8) : 0 ≤ lastT d l ∧ lastT d l ≤ 3 := by unfold lastT; omega
/-- The bends from the last one down to the i-th one, each the other way. -/
def bkT (l : List UInt8) (i : Nat) : List UInt8 := ((l.drop i).map flipT).reverse
theorem bkT_step {l : List UInt8} {i : Nat} (h : i < l.length) : bkT l i = bkT l (i + 1) ++ [flipT l[i]] := by
  unfold bkT
  rw [List.drop_eq_getElem_cons h, List.map_cons, List.reverse_cons]
theorem bkT_zero (l : List UInt8) : bkT l 0 = backT l := by unfold bkT backT; rw [List.drop_zero]
theorem bkT_end (l : List UInt8) : bkT l l.length = [] := by unfold bkT; rw [List.drop_length]; rfl
theorem bkT_len (l : List UInt8) (i : Nat) : (bkT l i).length = l.length - i := by unfold bkT; simp
end Go.Proofs.YtbdkkkpgjcfdgaaDoor.ParM
