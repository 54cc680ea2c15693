/-
  Shapes as cells: the document's answer as mathematics; no program stands here. Conditions: none.
-/
import Derived.Test.YtecifgaekefkpaaDoorNzPm
import Derived.Test.YtecifgaekefkpaaDoorNzPb
import Derived.Test.YtecifgaekefkpaaDoorNzRm
namespace Go.Proofs.YtecifgaekefkpaaDoor.NmM
open Go.Proofs.YtecifgaekefkpaaDoor.LexM Go.Proofs.YtecifgaekefkpaaDoor.ParM Go.Proofs.YtecifgaekefkpaaDoor.GrM

/-- The side of To on which an edge ends. -/
def sideT (e : Edg) : Int := (lastT e.2.2.1 e.2.2.2 + 2) % 4
/-- An edge's own ends on a side of a vertex. -/
def on1 (v d : Int) (i : Nat) (e : Edg) : List Int :=
  (if e.1 = v ∧ e.2.2.1 = d then [2 * (i : Int)] else []) ++ (if e.2.1 = v ∧ sideT e = d then [2 * (i : Int) + 1] else [])
def onK (E : List Edg) (v d : Int) : Nat → List Int
  | 0 => []
  | k + 1 => onK E v d k ++ on1 v d k (E.getD k noE)
/-- The ends on a side of a vertex. -/
def onL (E : List Edg) (v d : Int) : List Int := onK E v d E.length
theorem on1_len (v d : Int) (i : Nat) (e : Edg) : (on1 v d i e).length ≤ 2 := by
  unfold on1
  rw [List.length_append]
  split <;> split <;> simp
theorem onK_len (E : List Edg) (v d : Int) : ∀ k, (onK E v d k).length ≤ 2 * k
  | 0 => by simp [onK]
  | k + 1 => by
    rw [onK, List.length_append]
    have h1 := onK_len E v d k
    have h2 := on1_len v d k (E.getD k noE)
    omega
theorem onL_len (E : List Edg) (v d : Int) : (onL E v d).length ≤ 2 * E.length := onK_len E v d _
/-- Which ends stand on a side. -/
theorem on1_mem {v d : Int} {i : Nat} {e : Edg} {t : Int} : t ∈ on1 v d i e ↔ (t = 2 * (i : Int) ∧ e.1 = v ∧ e.2.2.1 = d) ∨ (t = 2 * (i : Int) + 1 ∧ e.2.1 = v ∧ sideT e = d) := by
  unfold on1
  rw [List.mem_append]
  constructor
  · rintro (h | h)
    · split at h
      · rename_i hc; exact Or.inl ⟨by simpa using h, hc⟩
      · simp at h
    · split at h
      · rename_i hc; exact Or.inr ⟨by simpa using h, hc⟩
      · simp at h
  · rintro (⟨rfl, h⟩ | ⟨rfl, h⟩)
    · exact Or.inl (by rw [if_pos h]; simp)
    · exact Or.inr (by rw [if_pos h]; simp)
theorem onK_mem {E : List Edg} {v d : Int} {t : Int} : ∀ {k : Nat}, t ∈ onK E v d k ↔ ∃ i, i < k ∧ t ∈ on1 v d i (E.getD i noE)
  | 0 => by simp [onK]
  | k + 1 => by
    rw [onK, List.mem_append, onK_mem (k := k)]
    constructor
    · rintro (⟨i, hi, h⟩ | h)
      · exact ⟨i, by omega, h⟩
      · exact ⟨k, by omega, h⟩
    · rintro ⟨i, hi, h⟩
      by_cases e : i = k
      · subst e; exact Or.inr h
      · exact Or.inl ⟨i, by omega, h⟩
/-- How many ends on the first so many sides of a vertex. -/
def sidesK (E : List Edg) (v : Int) : Nat → Nat
  | 0 => 0
  | d + 1 => sidesK E v d + (onL E v (d : Int)).length
/-- How many cells a vertex has. -/
def vtxC (B : List Bool) (E : List Edg) (v : Nat) : Nat := if B.getD v false = true then 4 + sidesK E v 4 else 1
def cntV (B : List Bool) (E : List Edg) : Nat → Nat
  | 0 => 0
  | k + 1 => cntV B E k + vtxC B E k
def cntN (B : List Bool) (E : List Edg) : Nat := cntV B E B.length + bendsOf E
theorem sidesK_le (E : List Edg) (v : Int) : ∀ d, sidesK E v d ≤ d * (2 * E.length)
  | 0 => by simp [sidesK]
  | d + 1 => by
    rw [sidesK, Nat.add_mul, Nat.one_mul]
    have h1 := sidesK_le E v d
    have h2 := onL_len E v (d : Int)
    omega
theorem cntV_le (B : List Bool) (E : List Edg) : ∀ k, cntV B E k ≤ k * (4 + 8 * E.length)
  | 0 => by simp [cntV]
  | k + 1 => by
    rw [cntV, Nat.add_mul, Nat.one_mul]
    have h1 := cntV_le B E k
    have h2 := sidesK_le E (k : Int) 4
    have h3 : vtxC B E k ≤ 4 + 8 * E.length := by
      unfold vtxC
      split <;> omega
    omega
/-- Has a point two ends on one side? -/
def TwoOn (B : List Bool) (E : List Edg) : Prop := ∃ v d : Nat, v < B.length ∧ d < 4 ∧ B.getD v false = false ∧ 1 < (onL E v d).length
/-- Does an edge without bends go from a point to itself? -/
def SelfT (B : List Bool) (E : List Edg) : Prop := ∃ i, i < E.length ∧ (E.getD i noE).1 = (E.getD i noE).2.1 ∧ (E.getD i noE).2.2.2 = [] ∧ B.getD (E.getD i noE).1.toNat false = false
/-- What is wrong with a shape. -/
noncomputable def wrN (B : List Bool) (E : List Edg) : Int := open Classical in
  if chkS B E ≠ 0 then chkS B E else if 4096 < cntN B E then 6 else if TwoOn B E then 8 else if SelfT B E then 10 else 0
end Go.Proofs.YtecifgaekefkpaaDoor.NmM
