/-
  Shapes' texts as lists of bytes: what a first line, an edge's line and a whole text say; no program stands here. Conditions: none.
-/
import Derived.Test.YtgedcalplfnjmaaDoorLexM
namespace Go.Proofs.YtgedcalplfnjmaaDoor.ParM
open Go.Lib Go.Proofs.YtgedcalplfnjmaaDoor.LexM

/-- An edge: from, to, direction, bends. -/
abbrev Edg := Int × Int × Int × List UInt8
def noE : Edg := (0, 0, 0, [])
def shapeW : List UInt8 := [115, 104, 97, 112, 101]
def endW : List UInt8 := [101, 110, 100]
def isTurns (l : List UInt8) : Bool := l.all fun b => decide (b = 76) || decide (b = 82)
def isBox (l : List UInt8) : Bool := l.all fun b => decide (b = 112) || decide (b = 98)
def boxesOf (l : List UInt8) : List Bool := l.map fun b => decide (b = 98)
/-- The direction of a letter; -1: it is none's. -/
def dirOf (l : List UInt8) : Int := if l = [69] then 0 else if l = [78] then 1 else if l = [87] then 2 else if l = [83] then 3 else -1
/-- What the vertices' word says: the error, the vertices. -/
def fstW (p : List UInt8) : Int := if p = [45] then 0 else if isBox p = true then (if 4096 < p.length then 6 else 0) else 4
def fstV (p : List UInt8) : List Bool := if p = [45] then [] else boxesOf p
def fstE (l : List UInt8) : Int := match wdL l with
  | [a, p] => if a = shapeW then fstW p else 4
  | _ => 4
def fstB (l : List UInt8) : List Bool := match wdL l with
  | [a, p] => if a = shapeW ∧ fstW p = 0 then fstV p else []
  | _ => []
/-- What a vertex's word says. -/
def vtxE (n : Nat) (p : List UInt8) : Int := if numOk p 9999999 = true then (if numVal p 9999999 < n then 0 else 3) else 5
def edgW (n : Nat) (a d b t : List UInt8) : Int :=
  if vtxE n a ≠ 0 then vtxE n a else if dirOf d = -1 then 4 else if vtxE n b ≠ 0 then vtxE n b else if isTurns t = true then 0 else 4
def edgX (n : Nat) (a d b t : List UInt8) : Edg := if edgW n a d b t = 0 then (numVal a 9999999, numVal b 9999999, dirOf d, t) else noE
def edgE (n : Nat) (l : List UInt8) : Int := match wdL l with
  | [a, d, b] => edgW n a d b []
  | [a, d, b, t] => edgW n a d b t
  | _ => 4
def edgV (n : Nat) (l : List UInt8) : Edg := match wdL l with
  | [a, d, b] => edgX n a d b []
  | [a, d, b, t] => edgX n a d b t
  | _ => noE
/-- The lines behind the first one: the error, the line, the edges. -/
def goE (n : Nat) : List (List UInt8) → Nat → List Edg → Nat → Int × Int × List Edg
  | [], i, _, _ => (4, (i : Int) + 1, [])
  | l :: ls, i, E, b =>
    if l = endW then (if ls = [] then (0, 0, E) else (4, (i : Int) + 2, []))
    else if edgE n l ≠ 0 then (edgE n l, (i : Int) + 1, [])
    else if 4096 < E.length + 1 ∨ 4096 < b + (edgV n l).2.2.2.length then (6, (i : Int) + 1, [])
    else goE n ls (i + 1) (E ++ [edgV n l]) (b + (edgV n l).2.2.2.length)
/-- What a text is parsed to: the error, the line, the vertices, the edges. -/
def par (s : List UInt8) : Int × Int × List Bool × List Edg :=
  if lnE s ≠ 0 then (lnE s, 0, [], []) else match lnL s with
  | [] => (4, 1, [], [])
  | l :: ls => if fstE l ≠ 0 then (fstE l, 1, [], []) else
    ((goE (fstB l).length ls 1 [] 0).1, (goE (fstB l).length ls 1 [] 0).2.1, if (goE (fstB l).length ls 1 [] 0).1 = 0 then fstB l else [], (goE (fstB l).length ls 1 [] 0).2.2)

/-! An error comes without a shape. -/
theorem goE_none (n : Nat) : ∀ (L : List (List UInt8)) (i : Nat) (E : List Edg) (b : Nat), (goE n L i E b).1 ≠ 0 → (goE n L i E b).2.2 = []
  | [], i, E, b, h => rfl
  | l :: ls, i, E, b, h => by
    unfold goE at h ⊢
    split
    · rename_i h1
      rw [if_pos h1] at h
      split
      · rename_i h2; rw [if_pos h2] at h; exact absurd rfl h
      · rfl
    · rename_i h1
      rw [if_neg h1] at h
      split
      · rfl
      · rename_i h2
        rw [if_neg h2] at h
        split
        · rfl
        · rename_i h3
          rw [if_neg h3] at h
          exact goE_none n ls _ _ _ h
theorem par_none {s : List UInt8} (h : (par s).1 ≠ 0) : (par s).2.2.1 = [] ∧ (par s).2.2.2 = [] := by
  unfold par at h ⊢
  split
  · exact ⟨rfl, rfl⟩
  · rename_i h0
    rw [if_neg h0] at h
    split
    · exact ⟨rfl, rfl⟩
    · rename_i l ls hl
      rw [hl] at h
      simp only [] at h
      split
      · exact ⟨rfl, rfl⟩
      · rename_i h1
        rw [if_neg h1] at h
        exact ⟨if_neg h, goE_none _ _ _ _ _ h⟩

/-! Which line. -/
theorem goE_line (n : Nat) : ∀ (L : List (List UInt8)) (i : Nat) (E : List Edg) (b : Nat), ((goE n L i E b).1 = 0 → (goE n L i E b).2.1 = 0) ∧ 0 ≤ (goE n L i E b).2.1 ∧ (goE n L i E b).2.1 ≤ i + L.length + 1
  | [], i, E, b => by
    unfold goE
    simp only [List.length_nil]
    exact ⟨fun h => absurd h (by decide), by omega, by omega⟩
  | l :: ls, i, E, b => by
    unfold goE
    simp only [List.length_cons]
    split
    · split
      · exact ⟨fun _ => rfl, by simp only []; omega, by simp only []; omega⟩
      · rename_i h2
        have : 0 < ls.length := List.length_pos_iff.2 h2
        exact ⟨fun h => absurd (show (4 : Int) = 0 from h) (by decide), by simp only []; omega, by simp only []; omega⟩
    · split
      · rename_i h2
        exact ⟨fun h => absurd h h2, by simp only []; omega, by simp only []; omega⟩
      · split
        · exact ⟨fun h => absurd (show (6 : Int) = 0 from h) (by decide), by simp only []; omega, by simp only []; omega⟩
        · obtain ⟨h1, h2, h3⟩ := goE_line n ls (i + 1) (E ++ [edgV n l]) (b + (edgV n l).2.2.2.length)
          exact ⟨h1, h2, by omega⟩
theorem lnL_count (s : List UInt8) : (lnL s).length ≤ s.count 10 := by
  unfold lnL
  split
  · have h := congrArg List.length (pieces_ps 10 s)
    rw [pieces_length, List.length_append, List.length_singleton] at h
    omega
  · simp
theorem par_line (s : List UInt8) : ((par s).1 = 0 → (par s).2.1 = 0) ∧ 0 ≤ (par s).2.1 ∧ (par s).2.1 ≤ s.count 10 + 1 := by
  have hc := lnL_count s
  unfold par
  split
  · exact ⟨fun h => rfl, by simp only []; omega, by simp only []; omega⟩
  · split
    · exact ⟨fun h => absurd h (by decide), by simp only []; omega, by simp only []; omega⟩
    · rename_i l ls hl
      rw [hl, List.length_cons] at hc
      split
      · rename_i h1
        exact ⟨fun h => absurd h h1, by simp only []; omega, by simp only []; omega⟩
      · obtain ⟨h1, h2, h3⟩ := goE_line (fstB l).length ls 1 [] 0
        exact ⟨h1, h2, by simp only []; omega⟩

/-! What may be written. -/
def okE (n : Nat) (e : Edg) : Prop := 0 ≤ e.1 ∧ e.1 < n ∧ 0 ≤ e.2.1 ∧ e.2.1 < n ∧ 0 ≤ e.2.2.1 ∧ e.2.2.1 ≤ 3 ∧ isTurns e.2.2.2 = true
def bendsOf (E : List Edg) : Nat := (E.map fun e => e.2.2.2.length).sum
structure May (B : List Bool) (E : List Edg) : Prop where
  vs : B.length ≤ 4096
  es : E.length ≤ 4096
  bs : bendsOf E ≤ 4096
  ok : ∀ e ∈ E, okE B.length e
theorem dirOf_range (l : List UInt8) : dirOf l = -1 ∨ (0 ≤ dirOf l ∧ dirOf l ≤ 3) := by
  unfold dirOf
  repeat' split
  all_goals (first | (left; rfl) | (right; decide))
theorem numVal_nonneg (p : List UInt8) (m : Int) : 0 ≤ numVal p m := by
  unfold numVal; split <;> omega
theorem edgX_ok {n : Nat} {a d b t : List UInt8} (h : edgW n a d b t = 0) : okE n (edgX n a d b t) := by
  unfold edgX
  rw [if_pos h]
  unfold edgW at h
  have hv : ∀ p, vtxE n p = 0 → numVal p 9999999 < n := by
    intro p hp
    unfold vtxE at hp
    split at hp
    · split at hp
      · assumption
      · cases hp
    · cases hp
  split at h
  · rename_i h1; exact absurd h h1
  · rename_i h1
    split at h
    · cases h
    · rename_i h2
      split at h
      · rename_i h3; exact absurd h h3
      · rename_i h3
        split at h
        · rename_i h4
          have hd := (dirOf_range d).resolve_left h2
          exact ⟨numVal_nonneg _ _, hv a (by omega), numVal_nonneg _ _, hv b (by omega), hd.1, hd.2, h4⟩
        · cases h
theorem edgV_ok {n : Nat} {l : List UInt8} (h : edgE n l = 0) : okE n (edgV n l) := by
  unfold edgE at h
  unfold edgV
  split at h
  · exact edgX_ok h
  · exact edgX_ok h
  · cases h
theorem bendsOf_snoc (E : List Edg) (e : Edg) : bendsOf (E ++ [e]) = bendsOf E + e.2.2.2.length := by
  simp [bendsOf, List.sum_append]
theorem goE_may (B : List Bool) (hB : B.length ≤ 4096) : ∀ (L : List (List UInt8)) (i : Nat) (E : List Edg) (b : Nat), May B E → bendsOf E = b → (goE B.length L i E b).1 = 0 → May B (goE B.length L i E b).2.2
  | [], i, E, b, hM, hb, h => by unfold goE at h; cases h
  | l :: ls, i, E, b, hM, hb, h => by
    unfold goE at h ⊢
    split
    · rename_i h1
      rw [if_pos h1] at h
      split
      · exact hM
      · rename_i h2; rw [if_neg h2] at h; cases h
    · rename_i h1
      rw [if_neg h1] at h
      split
      · rename_i h2; rw [if_pos h2] at h; exact absurd h h2
      · rename_i h2
        rw [if_neg h2] at h
        split
        · rename_i h3; rw [if_pos h3] at h; cases h
        · rename_i h3
          rw [if_neg h3] at h
          refine goE_may B hB ls _ _ _ ⟨hB, by rw [List.length_append, List.length_singleton]; omega, by rw [bendsOf_snoc]; omega, fun e he => ?_⟩ (by rw [bendsOf_snoc, hb]) h
          rcases List.mem_append.1 he with he | he
          · exact hM.ok e he
          · obtain rfl := List.mem_singleton.1 he
            exact edgV_ok (by omega)
theorem fstB_len (l : List UInt8) : (fstB l).length ≤ 4096 := by
  unfold fstB
  split
  · split
    · rename_i h
      have h2 := h.2
      unfold fstW at h2
      unfold fstV
      split
      · simp
      · rename_i h3
        rw [if_neg h3] at h2
        simp only [boxesOf, List.length_map]
        split at h2
        · split at h2
          · cases h2
          · omega
        · cases h2
    · simp
  · simp
theorem par_may {s : List UInt8} (h : (par s).1 = 0) : May (par s).2.2.1 (par s).2.2.2 := by
  unfold par at h ⊢
  split
  · rename_i h0; rw [if_pos h0] at h; exact absurd h h0
  · rename_i h0
    rw [if_neg h0] at h
    split
    · rename_i hl; rw [hl] at h; cases h
    · rename_i l ls hl
      rw [hl] at h
      simp only [] at h
      split
      · rename_i h1; rw [if_pos h1] at h; exact absurd h h1
      · rename_i h1
        rw [if_neg h1] at h
        simp only [] at h ⊢
        rw [if_pos h]
        exact goE_may _ (fstB_len l) ls 1 [] 0 ⟨fstB_len l, by simp, by simp [bendsOf], by simp⟩ (by simp [bendsOf]) h
end Go.Proofs.YtgedcalplfnjmaaDoor.ParM
