/-
  add, Parse: what they answer. Conditions: none.
-/
import Derived.Test.YtgedcalplfnjmaaDoorParF
namespace Go.Proofs.YtgedcalplfnjmaaDoor
open Go.RowKit Go.Proofs.YtgedcalplfnjmaaDoor.LexM Go.Proofs.YtgedcalplfnjmaaDoor.ParM

/-! What is read so far, as one thing: begun, ended, boxes, edges, bends. -/
abbrev Stt := Bool × Bool × List Bool × List Edg × Nat
def adC (st : Stt) (l : List UInt8) : Int := if st.2.1 = true then 4 else if st.1 = false then fstE l else if l = endW then 0 else adE st.2.2.1.length l st.2.2.2.1 st.2.2.2.2
def nxS (st : Stt) (l : List UInt8) : Stt := if st.1 = false then (true, false, fstB l, st.2.2.2.1, st.2.2.2.2) else if l = endW then (true, true, st.2.2.1, st.2.2.2.1, st.2.2.2.2)
  else (true, false, st.2.2.1, st.2.2.2.1 ++ [edgV st.2.2.1.length l], st.2.2.2.2 + (edgV st.2.2.1.length l).2.2.2.length)
def go3 : Stt → List (List UInt8) → Nat → Int × Int × List Bool × List Edg
  | st, [], i => if st.2.1 = true then (0, 0, st.2.2.1, st.2.2.2.1) else (4, (i : Int) + 1, [], [])
  | st, l :: T, i => if adC st l ≠ 0 then (adC st l, (i : Int) + 1, [], []) else go3 (nxS st l) T (i + 1)
theorem go3_go (B : List Bool) : ∀ (T : List (List UInt8)) (i : Nat) (E : List Edg) (b : Nat),
    go3 (true, false, B, E, b) T i = ((goE B.length T i E b).1, (goE B.length T i E b).2.1, if (goE B.length T i E b).1 = 0 then B else [], (goE B.length T i E b).2.2)
  | [], i, E, b => by simp [go3, goE]
  | l :: T, i, E, b => by
    rw [go3, goE]
    by_cases he : l = endW
    · have h1 : adC (true, false, B, E, b) l = 0 := by simp [adC, he]
      have h2 : nxS (true, false, B, E, b) l = (true, true, B, E, b) := by simp [nxS, he]
      rw [h1, h2, if_neg (by simp), if_pos he]
      cases T with
      | nil => simp [go3]
      | cons x T =>
        have h3 : adC (true, true, B, E, b) x = 4 := by simp [adC]
        rw [go3, h3, if_pos (by decide), if_neg (by simp)]
        simp; omega
    · have h1 : adC (true, false, B, E, b) l = adE B.length l E b := by simp [adC, he]
      have h2 : nxS (true, false, B, E, b) l = (true, false, B, E ++ [edgV B.length l], b + (edgV B.length l).2.2.2.length) := by simp [nxS, he]
      rw [h1, h2, if_neg he]
      by_cases hz : edgE B.length l ≠ 0
      · have h3 : adE B.length l E b = edgE B.length l := by unfold adE; rw [if_pos hz]
        rw [h3, if_pos hz, if_pos hz, if_neg hz]
      · have h3 : adE B.length l E b = if 4096 < E.length + 1 ∨ 4096 < b + (edgV B.length l).2.2.2.length then 6 else 0 := by unfold adE; rw [if_neg hz]
        rw [h3, if_neg hz]
        split
        · simp
        · rw [if_neg (by simp), go3_go B T (i + 1)]
theorem par_go3 {s : List UInt8} (h0 : lnE s = 0) : par s = go3 (false, false, [], [], 0) (lnL s) 0 := by
  unfold par
  rw [h0, if_neg (by simp)]
  generalize lnL s = L
  cases L with
  | nil => simp [go3]
  | cons l T =>
    have h1 : adC (false, false, [], [], 0) l = fstE l := by simp [adC]
    have h2 : nxS (false, false, [], [], 0) l = (true, false, fstB l, [], 0) := by simp [nxS]
    rw [go3, h1, h2, go3_go]
    by_cases hz : fstE l = 0
    · simp [hz]
    · simp [hz]
def okS (st : Stt) : Prop := st.2.2.2.1.length ≤ 4096 ∧ st.2.2.2.2 ≤ 4096
theorem okS_next {st : Stt} {l : List UInt8} (h : okS st) (h0 : adC st l = 0) : okS (nxS st l) := by
  obtain ⟨bg, en, B, E, b⟩ := st
  obtain ⟨h1, h2⟩ := h
  simp only at h1 h2
  unfold nxS
  unfold adC at h0
  simp only at h0 ⊢
  cases bg with
  | false => exact ⟨h1, h2⟩
  | true =>
    rw [if_neg (by simp)]
    by_cases he : l = endW
    · rw [if_pos he]; exact ⟨h1, h2⟩
    · rw [if_neg he]
      cases en with
      | true => simp at h0
      | false =>
        rw [if_neg (by simp), if_neg (by simp), if_neg he] at h0
        unfold adE at h0
        split at h0
        · rename_i hz; exact absurd h0 hz
        · split at h0
          · cases h0
          · rename_i hm
            unfold okS
            simp only [List.length_append, List.length_singleton]
            omega




end Go.Proofs.YtgedcalplfnjmaaDoor
