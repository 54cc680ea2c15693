/-
  Numbers' texts and proofs' texts, as lists of bytes; no program stands here. Conditions: none.
-/
import Derived.Test.YtappfojjjegnpaaGreatDoorLexM
import Derived.Lib.AtoiAllCases
import Derived.Lib.ItoaMem
namespace Go.Proofs.YtappfojjjegnpaaGreatDoor.LexM
open Go.Lib

def In63 (v : Int) : Prop := -9223372036854775808 ≤ v ∧ v ≤ 9223372036854775807
/-- What a row of digits says behind a number. -/
def fin (acc : Nat) (l : List UInt8) : Nat := l.foldl (fun a b => 10 * a + (b.toNat - 48)) acc
theorem fin_ge : ∀ (l : List UInt8) (acc : Nat), acc ≤ fin acc l
  | [], acc => Nat.le_refl _
  | b :: r, acc => by
    have := fin_ge r (10 * acc + (b.toNat - 48))
    show acc ≤ fin (10 * acc + (b.toNat - 48)) r
    omega
theorem parse10 : ∀ (l : List UInt8) (acc : Nat), l.all isDigit = true → fin acc l < 18446744073709551616 → parseUint10 acc l = .ok (fin acc l)
  | [], acc, _, _ => rfl
  | c :: r, acc, hd, hf => by
    simp only [List.all_cons, Bool.and_eq_true] at hd
    have hc := hd.1
    simp only [isDigit, Bool.and_eq_true, decide_eq_true_eq] at hc
    have e : fin acc (c :: r) = fin (10 * acc + (c.toNat - 48)) r := rfl
    rw [e] at hf ⊢
    have hg := fin_ge r (10 * acc + (c.toNat - 48))
    rw [parseUint10, if_pos hc, if_neg (by omega), if_neg (by omega), show acc * 10 + (c.toNat - 48) = 10 * acc + (c.toNat - 48) by omega]
    exact parse10 r _ hd.2 hf
theorem head_digit {c : UInt8} {r : List UInt8} (h : (c :: r).all isDigit = true) : c.toNat ≠ 43 ∧ c.toNat ≠ 45 := by
  simp only [List.all_cons, Bool.and_eq_true] at h
  have hc := h.1
  simp only [isDigit, Bool.and_eq_true, decide_eq_true_eq] at hc
  omega
theorem mag_dec (u : Nat) (hu : u < 18446744073709551616) : parseMag (decDigits u) = .ok u := by
  unfold parseMag
  rw [if_neg (dec_ne u)]
  have hv : fin 0 (decDigits u) = u := dec_val u
  rw [parse10 _ 0 (dec_digits u) (by rw [hv]; exact hu), hv]
theorem itoa_minus {v : Int} (h : v < 0) : ∃ u : Nat, v = -(u : Int) ∧ 1 ≤ u ∧ itoa v = 45 :: decDigits u := by
  refine ⟨(-v).toNat, by omega, by omega, ?_⟩
  have := itoa_neg (-v).toNat (by omega)
  rw [show -(((-v).toNat : Nat) : Int) = v by omega] at this
  exact this
theorem itoa_plus {v : Int} (h : 0 ≤ v) : ∃ u : Nat, v = u ∧ itoa v = decDigits u := by
  refine ⟨v.toNat, by omega, ?_⟩
  have := itoa_nonneg v.toNat
  rw [show ((v.toNat : Nat) : Int) = v by omega] at this
  exact this
theorem atoi_itoa {v : Int} (h : In63 v) : atoiAll (itoa v) = .ok v := by
  obtain ⟨h0, h1⟩ := h
  by_cases hn : v < 0
  · obtain ⟨u, rfl, hu, e⟩ := itoa_minus hn
    rw [e, atoiAll_minus, mag_dec u (by omega)]
    show (if 9223372036854775808 < u then NumEnd.range else NumEnd.ok (-(u : Int))) = _
    rw [if_neg (by omega)]
  · obtain ⟨u, rfl, e⟩ := itoa_plus (by omega : 0 ≤ v)
    rw [e]
    have hd := dec_digits u
    cases hl : decDigits u with
    | nil => exact absurd hl (dec_ne u)
    | cons c r =>
      rw [hl] at hd
      have := head_digit hd
      rw [atoiAll_plain c r this.1 this.2, ← hl, mag_dec u (by omega)]
      show (if 9223372036854775808 ≤ u then NumEnd.range else NumEnd.ok (u : Int)) = _
      rw [if_neg (by omega)]
/-- Is a word an int as it is printed? -/
def isInt (l : List UInt8) : Bool := match atoiAll l with
  | .ok v => decide (itoa v = l)
  | _ => false
def intVal (l : List UInt8) : Int := match atoiAll l with
  | .ok v => v
  | _ => 0
theorem int_itoa {v : Int} (h : In63 v) : isInt (itoa v) = true ∧ intVal (itoa v) = v := by
  unfold isInt intVal
  rw [atoi_itoa h]
  exact ⟨by simp, rfl⟩
theorem isInt_val {l : List UInt8} (h : isInt l = true) : itoa (intVal l) = l ∧ In63 (intVal l) ∧ atoiAll l = .ok (intVal l) := by
  unfold isInt at h
  unfold intVal
  cases hA : atoiAll l with
  | ok v =>
    rw [hA] at h
    exact ⟨by simpa using h, atoiAll_bounds hA, rfl⟩
  | _ => rw [hA] at h; cases h
theorem isInt_ok {l : List UInt8} {v : Int} (h : atoiAll l = .ok v) : isInt l = decide (itoa v = l) := by unfold isInt; rw [h]
theorem isInt_no {l : List UInt8} (h : ∀ v, atoiAll l ≠ .ok v) : isInt l = false := by
  unfold isInt
  cases hA : atoiAll l with
  | ok v => exact absurd hA (h v)
  | _ => rfl

theorem itoa_bytes {v : Int} : ∀ b ∈ itoa v, b = 45 ∨ isDigit b = true := by
  intro b hb
  by_cases hn : v < 0
  · obtain ⟨u, _, _, e⟩ := itoa_minus hn
    rw [e] at hb
    rcases List.mem_cons.1 hb with h | h
    · exact Or.inl h
    · exact Or.inr (List.all_eq_true.1 (dec_digits u) b h)
  · obtain ⟨u, _, e⟩ := itoa_plus (by omega : 0 ≤ v)
    rw [e] at hb
    exact Or.inr (List.all_eq_true.1 (dec_digits u) b hb)
theorem itoa_blank (v : Int) : (32 : UInt8) ∉ itoa v := by
  intro h
  rcases itoa_bytes _ h with h | h
  · exact absurd h (by decide)
  · exact absurd h (by decide)
theorem itoa_word (v : Int) : itoa v ≠ [102] := by
  intro e
  have h : (102 : UInt8) ∈ itoa v := by rw [e]; simp
  rcases itoa_bytes _ h with h | h
  · exact absurd h (by decide)
  · exact absurd h (by decide)

/-! Texts of proofs. -/
def nums (x : List Int) : List UInt8 := x.flatMap fun c => 32 :: itoa c
def printL (x f : List Int) : List UInt8 := [120] ++ nums x ++ [32, 102] ++ nums f
theorem nums_snoc (x : List Int) (c : Int) : nums (x ++ [c]) = nums x ++ (32 :: itoa c) := by simp [nums]
theorem pieces_none (c : UInt8) : ∀ p : List UInt8, c ∉ p → pieces c p = [p]
  | [], _ => rfl
  | b :: t, h => by
    have hb : b ≠ c := fun e => h (by simp [e])
    have ih := pieces_none c t (fun e => h (by simp [e]))
    simp only [pieces, List.cons.injEq] at ih
    simp [pieces, pr, hb, ih.1, ih.2]
theorem pieces_app (c : UInt8) : ∀ p t : List UInt8, c ∉ p → pieces c (p ++ c :: t) = p :: pieces c t
  | [], t, _ => by simp [pieces, pr]
  | b :: p, t, h => by
    have hb : b ≠ c := fun e => h (by simp [e])
    have ih := pieces_app c p t (fun e => h (by simp [e]))
    simp only [pieces, List.cons.injEq] at ih
    simp [pieces, pr, hb, ih.1, ih.2]
theorem pieces_nums : ∀ (x : List Int) (p t : List UInt8), (32 : UInt8) ∉ p → pieces 32 (p ++ nums x ++ 32 :: t) = p :: (x.map itoa ++ pieces 32 t)
  | [], p, t, h => by simp [nums, pieces_app 32 p t h]
  | c :: x, p, t, h => by
    have e : p ++ nums (c :: x) ++ 32 :: t = p ++ 32 :: (itoa c ++ nums x ++ 32 :: t) := by simp [nums]
    rw [e, pieces_app 32 p _ h, pieces_nums x (itoa c) t (itoa_blank c)]
    simp
theorem pieces_nums_end : ∀ (x : List Int) (p : List UInt8), (32 : UInt8) ∉ p → pieces 32 (p ++ nums x) = p :: x.map itoa
  | [], p, h => by simp [nums, pieces_none 32 p h]
  | c :: x, p, h => by
    have e : p ++ nums (c :: x) = p ++ 32 :: (itoa c ++ nums x) := by simp [nums]
    rw [e, pieces_app 32 p _ h, pieces_nums_end x (itoa c) (itoa_blank c)]
    simp
theorem pieces_print (x f : List Int) : pieces 32 (printL x f) = [120] :: (x.map itoa ++ [102] :: f.map itoa) := by
  have e : printL x f = [120] ++ nums x ++ 32 :: ([102] ++ nums f) := by simp [printL]
  rw [e, pieces_nums x [120] _ (by decide), pieces_nums_end f [102] (by decide)]

/-- The words behind the first one, ahead of the first `f`, and from it on. -/
def fore (l : List UInt8) : List (List UInt8) := (pieces 32 l).tail.takeWhile fun p => !(p == [102])
def rest (l : List UInt8) : List (List UInt8) := (pieces 32 l).tail.dropWhile fun p => !(p == [102])
def aft (l : List UInt8) : List (List UInt8) := (rest l).tail
def prOk (l : List UInt8) : Bool := decide (l.length ≤ 1048576) && ((pieces 32 l).head? == some [120]) && !(rest l).isEmpty && (fore l).all isInt && (aft l).all isInt
def prE (l : List UInt8) : Int := if 1048576 < l.length then 16 else if prOk l then 0 else 4
def prX (l : List UInt8) : List Int := if prOk l then (fore l).map intVal else []
def prF (l : List UInt8) : List Int := if prOk l then (aft l).map intVal else []
theorem prE_long {l : List UInt8} (h : 1048576 < l.length) : prE l = 16 ∧ prX l = [] ∧ prF l = [] := by
  have e : prOk l = false := by unfold prOk; rw [decide_eq_false (by omega)]; rfl
  exact ⟨by unfold prE; rw [if_pos h], by unfold prX; rw [e]; rfl, by unfold prF; rw [e]; rfl⟩
theorem prE_no {l : List UInt8} (h : ¬ 1048576 < l.length) (e : prOk l = false) : prE l = 4 ∧ prX l = [] ∧ prF l = [] :=
  ⟨by unfold prE; rw [if_neg h, e]; rfl, by unfold prX; rw [e]; rfl, by unfold prF; rw [e]; rfl⟩
theorem prE_yes {l : List UInt8} (e : prOk l = true) : prE l = 0 ∧ prX l = (fore l).map intVal ∧ prF l = (aft l).map intVal := by
  have h : ¬ 1048576 < l.length := by
    unfold prOk at e
    simp only [Bool.and_eq_true, decide_eq_true_eq] at e
    omega
  exact ⟨by unfold prE; rw [if_neg h, e]; rfl, by unfold prX; rw [e]; rfl, by unfold prF; rw [e]; rfl⟩
theorem words_parts (l : List UInt8) : (pieces 32 l).tail = fore l ++ rest l := by
  unfold fore rest
  exact (List.takeWhile_append_dropWhile).symm
theorem rest_head {l : List UInt8} (h : rest l ≠ []) : rest l = [102] :: aft l := by
  unfold aft
  cases hr : rest l with
  | nil => exact absurd hr h
  | cons p t =>
    have : ((pieces 32 l).tail.dropWhile fun p => !(p == [102])) = p :: t := hr
    have hp := List.head_dropWhile_not (p := fun p : List UInt8 => !(p == [102])) (l := (pieces 32 l).tail) (by rw [this]; simp)
    simp only [this, List.head_cons] at hp
    have : p = [102] := by simpa using hp
    rw [this]; rfl
theorem mem_while {α : Type} (p : α → Bool) : ∀ (l : List α) (x : α), x ∈ l.takeWhile p → p x = true
  | [], x, h => by simp at h
  | a :: l, x, h => by
    rw [List.takeWhile_cons] at h
    split at h
    · rename_i ha
      rcases List.mem_cons.1 h with e | e
      · rw [e]; exact ha
      · exact mem_while p l x e
    · simp at h
theorem fore_free (l : List UInt8) : [102] ∉ fore l := by
  intro h
  have := mem_while _ _ _ h
  simp at this
theorem map_int_itoa : ∀ x : List Int, (∀ c ∈ x, In63 c) → (x.map itoa).all isInt = true ∧ (x.map itoa).map intVal = x
  | [], _ => ⟨rfl, rfl⟩
  | c :: x, h => by
    have ih := map_int_itoa x (fun d hd => h d (by simp [hd]))
    have hc := int_itoa (h c (by simp))
    exact ⟨by rw [List.map_cons, List.all_cons, hc.1, ih.1]; rfl, by rw [List.map_cons, List.map_cons, hc.2, ih.2]⟩
theorem map_itoa_int : ∀ L : List (List UInt8), L.all isInt = true → (L.map intVal).map itoa = L
  | [], _ => rfl
  | p :: L, h => by
    simp only [List.all_cons, Bool.and_eq_true] at h
    rw [List.map_cons, List.map_cons, (isInt_val h.1).1, map_itoa_int L h.2]
theorem take_itoa (x : List Int) (t : List (List UInt8)) : (x.map itoa ++ [102] :: t).takeWhile (fun p => !(p == [102])) = x.map itoa ∧ (x.map itoa ++ [102] :: t).dropWhile (fun p => !(p == [102])) = [102] :: t := by
  induction x with
  | nil => simp
  | cons c x ih =>
    have hc : (itoa c == [102]) = false := by simpa using itoa_word c
    simp only [List.map_cons, List.cons_append, List.takeWhile_cons, List.dropWhile_cons, hc]
    exact ⟨by simp [ih.1], by simp [ih.2]⟩
/-- What is printed is parsed to it again. -/
theorem parse_print {x f : List Int} (hx : ∀ c ∈ x, In63 c) (hf : ∀ c ∈ f, In63 c) (hl : (printL x f).length ≤ 1048576) : prE (printL x f) = 0 ∧ prX (printL x f) = x ∧ prF (printL x f) = f := by
  have hp := pieces_print x f
  have e1 : fore (printL x f) = x.map itoa := by unfold fore; rw [hp]; exact (take_itoa x _).1
  have e2 : rest (printL x f) = [102] :: f.map itoa := by unfold rest; rw [hp]; exact (take_itoa x _).2
  have e3 : aft (printL x f) = f.map itoa := by unfold aft; rw [e2]; rfl
  have ok : prOk (printL x f) = true := by
    unfold prOk
    rw [e1, e2, e3, hp, (map_int_itoa x hx).1, (map_int_itoa f hf).1, decide_eq_true hl]; rfl
  obtain ⟨h1, h2, h3⟩ := prE_yes ok
  exact ⟨h1, by rw [h2, e1, (map_int_itoa x hx).2], by rw [h3, e3, (map_int_itoa f hf).2]⟩
theorem glue_map : ∀ x : List Int, glue 32 (x.map itoa) = (nums x).tail ++ (if x = [] then [] else [32])
  | [] => rfl
  | c :: x => by
    rw [List.map_cons, glue, glue_map x]
    cases x with
    | nil => simp [nums]
    | cons d x => simp [nums]
theorem glue_pieces (c : UInt8) (l : List UInt8) : glue c (pieces c l) = l ++ [c] := by
  rw [pieces_ps, glue_append]
  have h2 : glue c [(ps c l).2] = (ps c l).2 ++ [c] := by simp [glue]
  rw [h2, ← List.append_assoc, glue_ps]
/-- What is parsed is printed as it was. -/
theorem print_parse {l : List UInt8} (h : prOk l = true) : printL (prX l) (prF l) = l := by
  obtain ⟨_, h2, h3⟩ := prE_yes h
  have hh := h
  unfold prOk at hh
  simp only [Bool.and_eq_true, decide_eq_true_eq, beq_iff_eq] at hh
  obtain ⟨⟨⟨⟨_, hd⟩, hr⟩, hb⟩, ha⟩ := hh
  have hr2 : rest l ≠ [] := by intro e; rw [e] at hr; simp at hr
  have hp : pieces 32 l = [120] :: (fore l ++ [102] :: aft l) := by
    have e := words_parts l
    rw [rest_head hr2] at e
    cases hw : pieces 32 l with
    | nil => rw [hw] at hd; simp at hd
    | cons p t =>
      rw [hw] at hd e
      simp only [List.head?_cons, Option.some.injEq] at hd
      simp only [List.tail_cons] at e
      rw [hd, e]
  have e1 := pieces_print (prX l) (prF l)
  rw [h2, h3, map_itoa_int _ hb, map_itoa_int _ ha] at e1
  have g1 := glue_pieces 32 l
  have g2 := glue_pieces 32 (printL (prX l) (prF l))
  rw [h2, h3, e1, ← hp, g1] at g2
  rw [h2, h3]
  exact (List.append_cancel_right g2).symm
theorem printL_len (x f : List Int) (b : Nat) (hx : ∀ c ∈ x, (itoa c).length ≤ b) (hf : ∀ c ∈ f, (itoa c).length ≤ b) : (printL x f).length ≤ 3 + (b + 1) * (x.length + f.length) := by
  have hn : ∀ x : List Int, (∀ c ∈ x, (itoa c).length ≤ b) → (nums x).length ≤ (b + 1) * x.length := by
    intro x
    induction x with
    | nil => intro _; simp [nums]
    | cons c x ih =>
      intro h
      have h1 := ih (fun d hd => h d (by simp [hd]))
      have h2 := h c (by simp)
      have e : nums (c :: x) = (32 :: itoa c) ++ nums x := by simp [nums]
      rw [e, List.length_append, List.length_cons, List.length_cons, Nat.mul_succ]
      omega
  have h1 := hn x hx
  have h2 := hn f hf
  unfold printL
  simp only [List.length_append, List.length_cons, List.length_nil, Nat.mul_add]
  omega
end Go.Proofs.YtappfojjjegnpaaGreatDoor.LexM
