/-
  Faces of cells: mathematics; no program stands here. A dart is a number: four times its cell, and its direction. Conditions: none.
  All darts of cells, and the sum of their turns: mathematics; no program stands here. Conditions: cells that may be.
  Rows that lead round, and the least way of writing them: mathematics; no program stands here. Conditions: none.
  What faces are told as: the turns of each but 0, in the least way of writing them round, in order: mathematics; no program stands here. Conditions: cells that may be.
  The faces of cells that were split, and of those turned, are told as before: mathematics; no program stands here. Conditions: cells that may be.
-/
import Derived.Test.YtkakeakdgidigaaDoorNzRm
namespace Go.Proofs.YtkakeakdgidigaaDoor.FcM
open Go.Proofs.YtkakeakdgidigaaDoor.GrM

/-- Where a dart leads. -/
def nxK (L : List Int) (k : Nat) : Int := nxG L (k / 4) (k % 4)
/-- Is it a dart? -/
def isK (L : List Int) (n k : Nat) : Prop := k < 4 * n ∧ nxK L k ≠ -1
/-- Which way is taken, of the four that are tried. -/
def wayI (L : List Int) (v d : Nat) : Nat := if nxG L v ((d + 1) % 4) ≠ -1 then 0 else if nxG L v (d % 4) ≠ -1 then 1 else if nxG L v ((d + 3) % 4) ≠ -1 then 2 else 3
/-- The directions in the order in which they are tried. -/
def ordI (i : Nat) : Nat := if i = 0 then 1 else if i = 1 then 0 else if i = 2 then 3 else 2
def headK (L : List Int) (k : Nat) : Nat := (nxK L k).toNat
def wayK (L : List Int) (k : Nat) : Nat := wayI L (headK L k) (k % 4)
def dirK (L : List Int) (k : Nat) : Nat := (k % 4 + ordI (wayK L k)) % 4
/-- The dart behind. -/
def behK (L : List Int) (k : Nat) : Nat := 4 * headK L k + dirK L k
/-- How one turns. -/
def trnK (L : List Int) (k : Nat) : Int := 1 - (wayK L k : Int)
theorem way_le (L : List Int) (v d : Nat) : wayI L v d ≤ 3 := by unfold wayI; split <;> (try split) <;> (try split) <;> omega
theorem trn_range (L : List Int) (k : Nat) : -2 ≤ trnK L k ∧ trnK L k ≤ 1 := by
  have := way_le L (headK L k) (k % 4)
  unfold trnK wayK; omega
theorem dir_lt (L : List Int) (k : Nat) : dirK L k < 4 := Nat.mod_lt _ (by decide)
theorem beh_cell (L : List Int) (k : Nat) : behK L k / 4 = headK L k := by have := dir_lt L k; unfold behK; omega
theorem beh_dir (L : List Int) (k : Nat) : behK L k % 4 = dirK L k := by have := dir_lt L k; unfold behK; omega
/-- The same edge from its other end. -/
def revK (L : List Int) (k : Nat) : Nat := 4 * headK L k + opp (k % 4)
theorem isK.good {L : List Int} {n k : Nat} (h : isK L n k) (hg : GoodG L n) : nxK L k = (headK L k : Nat) ∧ headK L k < n ∧ nxG L (headK L k) (opp (k % 4)) = ((k / 4 : Nat) : Int) := by
  have hs := hg.side (v := k / 4) (d := k % 4) (by have := h.1; omega) (by omega)
  have h2 := h.2
  unfold nxK at h2
  unfold headK nxK
  rcases hs with hs | hs
  · exact absurd hs.1 h2
  · exact ⟨by omega, by omega, hs.2.2.2.1⟩
theorem rev_dart {L : List Int} {n k : Nat} (h : isK L n k) (hg : GoodG L n) : isK L n (revK L k) := by
  obtain ⟨h1, h2, h3⟩ := h.good hg
  have := opp_lt (k % 4)
  refine ⟨by unfold revK; omega, ?_⟩
  unfold nxK revK
  rw [show (4 * headK L k + opp (k % 4)) / 4 = headK L k by omega, show (4 * headK L k + opp (k % 4)) % 4 = opp (k % 4) by omega, h3]
  omega
theorem rev_rev {L : List Int} {n k : Nat} (h : isK L n k) (hg : GoodG L n) : revK L (revK L k) = k := by
  obtain ⟨h1, h2, h3⟩ := h.good hg
  have := opp_lt (k % 4)
  have e1 : (revK L k) / 4 = headK L k := by unfold revK; omega
  have e2 : (revK L k) % 4 = opp (k % 4) := by unfold revK; omega
  unfold revK
  rw [show 4 * headK L k + opp (k % 4) = revK L k from rfl, e2, opp_opp (by omega)]
  unfold headK nxK
  rw [e1, e2]
  show 4 * (nxG L (headK L k) (opp (k % 4))).toNat + k % 4 = k
  rw [h3]; omega
/-- There is a way, by the side that was taken. -/
theorem way_is {L : List Int} {v d : Nat} (h : nxG L v (opp d) ≠ -1) : nxG L v ((d + ordI (wayI L v d)) % 4) ≠ -1 ∧ (∀ i, i < wayI L v d → nxG L v ((d + ordI i) % 4) = -1) := by
  unfold opp at h
  unfold wayI
  by_cases h0 : nxG L v ((d + 1) % 4) = -1
  · rw [if_neg (fun e => e h0)]
    by_cases h1 : nxG L v (d % 4) = -1
    · rw [if_neg (fun e => e h1)]
      by_cases h2 : nxG L v ((d + 3) % 4) = -1
      · rw [if_neg (fun e => e h2)]
        refine ⟨h, fun i hi => ?_⟩
        have : i = 0 ∨ i = 1 ∨ i = 2 := by omega
        rcases this with rfl | rfl | rfl
        · exact h0
        · exact h1
        · exact h2
      · rw [if_pos h2]
        refine ⟨h2, fun i hi => ?_⟩
        have : i = 0 ∨ i = 1 := by omega
        rcases this with rfl | rfl
        · exact h0
        · exact h1
    · rw [if_pos h1]
      refine ⟨h1, fun i hi => ?_⟩
      have : i = 0 := by omega
      subst this; exact h0
  · rw [if_pos h0]
    exact ⟨h0, fun i hi => absurd hi (by omega)⟩
theorem beh_dart {L : List Int} {n k : Nat} (h : isK L n k) (hg : GoodG L n) : isK L n (behK L k) := by
  obtain ⟨h1, h2, h3⟩ := h.good hg
  have hw := (way_is (L := L) (v := headK L k) (d := k % 4) (by rw [h3]; omega)).1
  have := dir_lt L k
  refine ⟨by unfold behK; omega, ?_⟩
  unfold nxK
  rw [beh_cell, beh_dir]
  exact hw
theorem side_inj {L : List Int} {v d e : Nat} (hd : d < 4) (he : e < 4) (h1 : nxG L v (opp d) ≠ -1) (h2 : nxG L v (opp e) ≠ -1) (h : (d + ordI (wayI L v d)) % 4 = (e + ordI (wayI L v e)) % 4) : d = e := by
  have hb : ∀ b0 b1 b2 b3 : Bool, ∀ d e : Fin 4,
      (fun s : Nat => if s = 0 then b0 else if s = 1 then b1 else if s = 2 then b2 else b3) ((d.1 + 2) % 4) = true →
      (fun s : Nat => if s = 0 then b0 else if s = 1 then b1 else if s = 2 then b2 else b3) ((e.1 + 2) % 4) = true →
      (d.1 + ordI (if (fun s : Nat => if s = 0 then b0 else if s = 1 then b1 else if s = 2 then b2 else b3) ((d.1 + 1) % 4) = true then 0 else if (fun s : Nat => if s = 0 then b0 else if s = 1 then b1 else if s = 2 then b2 else b3) (d.1 % 4) = true then 1 else if (fun s : Nat => if s = 0 then b0 else if s = 1 then b1 else if s = 2 then b2 else b3) ((d.1 + 3) % 4) = true then 2 else 3)) % 4 =
      (e.1 + ordI (if (fun s : Nat => if s = 0 then b0 else if s = 1 then b1 else if s = 2 then b2 else b3) ((e.1 + 1) % 4) = true then 0 else if (fun s : Nat => if s = 0 then b0 else if s = 1 then b1 else if s = 2 then b2 else b3) (e.1 % 4) = true then 1 else if (fun s : Nat => if s = 0 then b0 else if s = 1 then b1 else if s = 2 then b2 else b3) ((e.1 + 3) % 4) = true then 2 else 3)) % 4 → d = e := by
    decide
  have key : ∀ s, s < 4 → ((fun s : Nat => if s = 0 then decide (nxG L v 0 ≠ -1) else if s = 1 then decide (nxG L v 1 ≠ -1) else if s = 2 then decide (nxG L v 2 ≠ -1) else decide (nxG L v 3 ≠ -1)) s = true) = (nxG L v s ≠ -1) := by
    intro s hs
    have : s = 0 ∨ s = 1 ∨ s = 2 ∨ s = 3 := by omega
    rcases this with rfl | rfl | rfl | rfl <;> simp
  have := hb (decide (nxG L v 0 ≠ -1)) (decide (nxG L v 1 ≠ -1)) (decide (nxG L v 2 ≠ -1)) (decide (nxG L v 3 ≠ -1)) ⟨d, hd⟩ ⟨e, he⟩
    (by rw [key _ (by omega)]; exact h1) (by rw [key _ (by omega)]; exact h2)
    (by
      simp only [key _ (Nat.mod_lt _ (by decide : 0 < 4))]
      exact h)
  exact congrArg Fin.val this
theorem beh_inj {L : List Int} {n k j : Nat} (hg : GoodG L n) (hk : isK L n k) (hj : isK L n j) (h : behK L k = behK L j) : k = j := by
  obtain ⟨a1, a2, a3⟩ := hk.good hg
  obtain ⟨b1, b2, b3⟩ := hj.good hg
  have hc : headK L k = headK L j := by rw [← beh_cell, ← beh_cell, h]
  have hd : dirK L k = dirK L j := by rw [← beh_dir, ← beh_dir, h]
  unfold dirK wayK at hd
  rw [← hc] at hd b3
  have he := side_inj (L := L) (v := headK L k) (d := k % 4) (e := j % 4) (by omega) (by omega) (by rw [a3]; omega) (by rw [b3]; omega) hd
  rw [← he, a3] at b3
  omega

/-! The faces, one by one. -/
def orb (L : List Int) : Nat → List Nat → Nat → List Nat
  | 0, _, _ => []
  | f + 1, met, k => if k ∈ met then [] else k :: orb L f (met ++ [k]) (behK L k)
def facS (L : List Int) (n : Nat) : Nat → List (List Nat)
  | 0 => []
  | j + 1 => if nxK L j = -1 ∨ j ∈ (facS L n j).flatten then facS L n j else facS L n j ++ [orb L (4 * n - (facS L n j).flatten.length) (facS L n j).flatten j]
def facesK (L : List Int) (n : Nat) : List (List Nat) := facS L n (4 * n)
theorem pigeonK : ∀ {n : Nat} {P : List Nat}, P.Nodup → (∀ v ∈ P, v < n) → P.length ≤ n
  | 0, [], _, _ => Nat.le_refl _
  | 0, v :: _, _, h => absurd (h v (by simp)) (by omega)
  | n + 1, P, hn, h => by
    have h1 := pigeonK (n := n) (P := P.filter (· ≠ n)) (hn.filter _) (fun v hv => by
      obtain ⟨a, b⟩ := List.mem_filter.1 hv
      have := h v a
      have : v ≠ n := by simpa using b
      omega)
    have h2 : P.length ≤ (P.filter (· ≠ n)).length + 1 := by
      clear h1 h
      induction P with
      | nil => simp
      | cons x P ih =>
        obtain ⟨hx, hP⟩ := List.nodup_cons.1 hn
        by_cases e : x = n
        · subst e
          have hf : P.filter (· ≠ x) = P := List.filter_eq_self.2 (fun a ha => by
            have : a ≠ x := fun e => hx (e ▸ ha)
            simpa using this)
          rw [List.filter_cons_of_neg (by simp), hf]
          simp
        · have := ih hP
          rw [List.filter_cons_of_pos (by simpa using e)]
          simpa using this
    omega
/-- Darts that were met: each once. -/
def Met (L : List Int) (n : Nat) (met : List Nat) : Prop := met.Nodup ∧ ∀ k ∈ met, isK L n k
theorem Met.len {L : List Int} {n : Nat} {met : List Nat} (h : Met L n met) : met.length ≤ 4 * n := by
  exact pigeonK h.1 (fun k hk => (h.2 k hk).1)
theorem Met.more {L : List Int} {n k : Nat} {met : List Nat} (h : Met L n met) (hk : isK L n k) (hn : k ∉ met) : Met L n (met ++ [k]) := by
  refine ⟨?_, fun j hj => ?_⟩
  · rw [List.nodup_append]
    refine ⟨h.1, by simp, fun a ha b hb => ?_⟩
    have : b = k := by simpa using hb
    subst this
    intro e; subst e; exact hn ha
  · rcases List.mem_append.1 hj with hj | hj
    · exact h.2 j hj
    · have : j = k := by simpa using hj
      subst this; exact hk
theorem orb_in {L : List Int} {f : Nat} {met : List Nat} {k : Nat} (h : k ∈ met) : orb L f met k = [] := by
  cases f with
  | zero => rfl
  | succ f => simp [orb, h]
/-- One dart more: whatever is left of a face. -/
theorem orb_step {L : List Int} {n : Nat} {met : List Nat} {k : Nat} (h : Met L n met) (hk : isK L n k) (hn : k ∉ met) :
    orb L (4 * n - met.length) met k = k :: orb L (4 * n - (met ++ [k]).length) (met ++ [k]) (behK L k) ∧ met.length < 4 * n := by
  have h2 := (h.more hk hn).len
  rw [List.length_append] at h2 ⊢
  simp only [List.length_singleton] at h2 ⊢
  have e : 4 * n - met.length = (4 * n - (met.length + 1)) + 1 := by omega
  rw [e, orb, if_neg hn]
  exact ⟨rfl, by omega⟩
/-- A row of darts, each behind the one ahead of it. -/
def Chn (b : Nat → Nat) (l : List Nat) : Prop := ∀ i, i + 1 < l.length → b (l.getD i 0) = l.getD (i + 1) 0
/-- .. and the first behind the last. -/
def Cyc (b : Nat → Nat) (l : List Nat) : Prop := l ≠ [] ∧ ∀ i, i < l.length → b (l.getD i 0) = l.getD ((i + 1) % l.length) 0
theorem orb_is {L : List Int} {n : Nat} (hg : GoodG L n) : ∀ (f : Nat) (met : List Nat) (k : Nat), f = 4 * n - met.length → Met L n met → isK L n k →
    Met L n (met ++ orb L f met k) ∧ Chn (behK L) (orb L f met k) ∧ (k ∉ met → (orb L f met k).head? = some k ∧ ∃ z, (orb L f met k).getLast? = some z ∧ behK L z ∈ met ++ orb L f met k) ∧ (k ∈ met → orb L f met k = [])
  | 0, met, k, hf, hm, hk => by
    have hl := hm.len
    have hin : k ∈ met := by
      refine Decidable.byContradiction fun hn => ?_
      have := (hm.more hk hn).len
      rw [List.length_append] at this
      simp only [List.length_singleton] at this
      omega
    simp only [orb, List.append_nil]
    refine ⟨hm, ?_, fun h => absurd hin h, fun _ => trivial⟩
    intro i hi; simp at hi
  | f + 1, met, k, hf, hm, hk => by
    by_cases hin : k ∈ met
    · simp only [orb, if_pos hin, List.append_nil]
      refine ⟨hm, ?_, fun h => absurd hin h, fun _ => trivial⟩
      intro i hi; simp at hi
    · have hm2 := hm.more hk hin
      have hf2 : f = 4 * n - (met ++ [k]).length := by rw [List.length_append]; simp only [List.length_singleton]; omega
      obtain ⟨i1, i2, i3, i4⟩ := orb_is hg f (met ++ [k]) (behK L k) hf2 hm2 (beh_dart hk hg)
      rw [show orb L (f + 1) met k = k :: orb L f (met ++ [k]) (behK L k) by simp only [orb, if_neg hin]]
      have e : met ++ k :: orb L f (met ++ [k]) (behK L k) = met ++ [k] ++ orb L f (met ++ [k]) (behK L k) := by simp
      rw [e]
      refine ⟨i1, ?_, fun _ => ⟨rfl, ?_⟩, fun h => absurd h hin⟩
      · intro i hi
        cases i with
        | zero =>
          by_cases hb : behK L k ∈ met ++ [k]
          · rw [i4 hb] at hi; simp at hi
          · have h0 := (i3 hb).1
            cases ho : orb L f (met ++ [k]) (behK L k) with
            | nil => rw [ho] at h0; cases h0
            | cons a r => rw [ho] at h0; simp at h0; simp [h0]
        | succ i =>
          have := i2 i (by simpa using hi)
          simpa using this
      · by_cases hb : behK L k ∈ met ++ [k]
        · refine ⟨k, by rw [i4 hb]; rfl, List.mem_append_left _ hb⟩
        · obtain ⟨h0, z, hz, hzm⟩ := i3 hb
          refine ⟨z, ?_, hzm⟩
          rw [List.getLast?_cons, hz]; rfl
/-- What is closed is left by none. -/
def Shut (L : List Int) (met : List Nat) : Prop := ∀ k ∈ met, ∃ j ∈ met, behK L j = k
theorem getD_mem {l : List Nat} {i : Nat} (h : i < l.length) : l.getD i 0 ∈ l := by
  rw [List.getD_eq_getElem?_getD, List.getElem?_eq_getElem h]; exact List.getElem_mem h
theorem getD_inj {l : List Nat} (hn : l.Nodup) {i j : Nat} (hi : i < l.length) (hj : j < l.length) (h : l.getD i 0 = l.getD j 0) : i = j := by
  rw [List.getD_eq_getElem?_getD, List.getElem?_eq_getElem hi, List.getD_eq_getElem?_getD, List.getElem?_eq_getElem hj] at h
  exact (List.getElem_inj hn).1 (by simpa using h)
theorem Cyc.shut {b : Nat → Nat} {l : List Nat} (h : Cyc b l) {k : Nat} (hk : k ∈ l) : ∃ j ∈ l, b j = k := by
  obtain ⟨i, hi, rfl⟩ := List.mem_iff_getElem.1 hk
  have hl : 0 < l.length := by omega
  have h1 := h.2 ((i + (l.length - 1)) % l.length) (Nat.mod_lt _ hl)
  refine ⟨l.getD ((i + (l.length - 1)) % l.length) 0, getD_mem (Nat.mod_lt _ hl), ?_⟩
  rw [h1]
  have e : ((i + (l.length - 1)) % l.length + 1) % l.length = i := by
    rw [Nat.mod_add_mod, show i + (l.length - 1) + 1 = i + l.length by omega, Nat.add_mod_right, Nat.mod_eq_of_lt hi]
  rw [e, List.getD_eq_getElem?_getD, List.getElem?_eq_getElem hi]; rfl
/-- A face, gathered ahead of closed ones, is closed. -/
theorem orb_cyc {L : List Int} {n k : Nat} {met : List Nat} (hg : GoodG L n) (hm : Met L n met) (hs : Shut L met) (hk : isK L n k) (hn : k ∉ met) :
    Met L n (met ++ orb L (4 * n - met.length) met k) ∧ Cyc (behK L) (orb L (4 * n - met.length) met k) ∧ (orb L (4 * n - met.length) met k).head? = some k := by
  obtain ⟨i1, i2, i3, _⟩ := orb_is hg _ met k rfl hm hk
  obtain ⟨h0, z, hz, hzm⟩ := i3 hn
  generalize orb L (4 * n - met.length) met k = l at *
  refine ⟨i1, ⟨?_, fun i hi => ?_⟩, h0⟩
  · intro e; subst e; cases h0
  · have hnd := (List.nodup_append.1 i1.1)
    have hd : ∀ j, j < l.length → isK L n (l.getD j 0) := fun j hj => i1.2 _ (List.mem_append_right _ (getD_mem hj))
    by_cases hlt : i + 1 < l.length
    · rw [Nat.mod_eq_of_lt hlt]; exact i2 i hlt
    · have hie : i + 1 = l.length := by omega
      rw [hie, Nat.mod_self]
      have hzi : l.getD i 0 = z := by
        rw [List.getLast?_eq_getElem?] at hz
        rw [List.getD_eq_getElem?_getD, show i = l.length - 1 by omega, hz]; rfl
      rw [hzi]
      have hzk : isK L n z := by rw [← hzi]; exact hd i hi
      rcases List.mem_append.1 hzm with hzm | hzm
      · obtain ⟨j, hj, hje⟩ := hs _ hzm
        have : j = z := beh_inj hg (i1.2 _ (List.mem_append_left _ hj)) hzk hje
        subst this
        exact absurd rfl (hnd.2.2 j hj j (hzi ▸ getD_mem hi))
      · obtain ⟨j, hj, hje⟩ := List.mem_iff_getElem.1 hzm
        have hje' : l.getD j 0 = behK L z := by rw [List.getD_eq_getElem?_getD, List.getElem?_eq_getElem hj]; exact hje
        cases j with
        | zero => exact hje'.symm
        | succ j =>
          have := i2 j hj
          rw [hje'] at this
          have e := beh_inj hg (hd j (by omega)) hzk this
          rw [← hzi] at e
          have := getD_inj hnd.2.1 (by omega) hi e
          omega
/-- What is true of the faces so far. -/
structure FacI (L : List Int) (n j : Nat) (F : List (List Nat)) : Prop where
  met : Met L n F.flatten
  cyc : ∀ f ∈ F, Cyc (behK L) f
  least : ∀ f ∈ F, ∀ k ∈ f, f.getD 0 0 ≤ k
  all : ∀ k, k < j → nxK L k ≠ -1 → k ∈ F.flatten
theorem facs_shut {L : List Int} {F : List (List Nat)} (h : ∀ f ∈ F, Cyc (behK L) f) : Shut L F.flatten := by
  intro k hk
  obtain ⟨f, hf, hkf⟩ := List.mem_flatten.1 hk
  obtain ⟨j, hj, he⟩ := (h f hf).shut hkf
  exact ⟨j, List.mem_flatten.2 ⟨f, hf, hj⟩, he⟩
theorem facs_is {L : List Int} {n : Nat} (hg : GoodG L n) : ∀ j, j ≤ 4 * n → FacI L n j (facS L n j)
  | 0, _ => ⟨⟨by simp [facS], by simp [facS]⟩, by simp [facS], by simp [facS], fun k hk => absurd hk (by omega)⟩
  | j + 1, hj => by
    have h := facs_is hg j (by omega)
    rw [facS]
    by_cases hc : nxK L j = -1 ∨ j ∈ (facS L n j).flatten
    · rw [if_pos hc]
      refine ⟨h.met, h.cyc, h.least, fun k hk hx => ?_⟩
      by_cases e : k = j
      · subst e
        rcases hc with hc | hc
        · exact absurd hc hx
        · exact hc
      · exact h.all k (by omega) hx
    · rw [if_neg hc]
      have h1 : nxK L j ≠ -1 := fun e => hc (Or.inl e)
      have h2 : j ∉ (facS L n j).flatten := fun e => hc (Or.inr e)
      obtain ⟨m, c, hd⟩ := orb_cyc hg h.met (facs_shut h.cyc) ⟨by omega, h1⟩ h2
      generalize orb L (4 * n - (facS L n j).flatten.length) (facS L n j).flatten j = f at *
      have h0 : f.getD 0 0 = j := by cases f with | nil => cases hd | cons a r => simp at hd; simp [hd]
      refine ⟨by simpa using m, fun g hgm => ?_, fun g hgm k hk => ?_, fun k hk hx => ?_⟩
      · rcases List.mem_append.1 hgm with hgm | hgm
        · exact h.cyc g hgm
        · have : g = f := by simpa using hgm
          subst this; exact c
      · rcases List.mem_append.1 hgm with hgm | hgm
        · exact h.least g hgm k hk
        · have : g = f := by simpa using hgm
          subst this
          rw [h0]
          have hkd := m.2 k (List.mem_append_right _ hk)
          refine Nat.le_of_not_lt fun hlt => ?_
          exact absurd rfl ((List.nodup_append.1 m.1).2.2 k (h.all k hlt hkd.2) k hk)
      · simp only [List.flatten_append, List.flatten_cons, List.flatten_nil, List.append_nil, List.mem_append]
        by_cases e : k = j
        · subst e
          exact Or.inr (h0 ▸ getD_mem (Nat.pos_of_ne_zero (fun e => by have := List.eq_nil_of_length_eq_zero e; subst this; cases hd)))
        · exact Or.inl (h.all k (by omega) hx)
theorem faces_is {L : List Int} {n : Nat} (hg : GoodG L n) : FacI L n (4 * n) (facesK L n) := facs_is hg _ (Nat.le_refl _)
end Go.Proofs.YtkakeakdgidigaaDoor.FcM

namespace Go.Proofs.YtkakeakdgidigaaDoor.FcM
open Go.Proofs.YtkakeakdgidigaaDoor.GrM

def isB (L : List Int) (k : Nat) : Bool := decide (nxK L k ≠ -1)
/-- All darts among the first j numbers. -/
def dartsT (L : List Int) (j : Nat) : List Nat := (List.range j).filter (isB L)
theorem mem_darts {L : List Int} {n k : Nat} : k ∈ dartsT L (4 * n) ↔ isK L n k := by
  unfold dartsT isB isK
  rw [List.mem_filter, List.mem_range, decide_eq_true_eq]
theorem darts_nodup (L : List Int) (j : Nat) : (dartsT L j).Nodup := List.nodup_range.filter _
theorem darts_more (L : List Int) (j : Nat) : dartsT L (j + 1) = if isB L j = true then dartsT L j ++ [j] else dartsT L j := by
  unfold dartsT
  rw [List.range_succ, List.filter_append]
  by_cases h : isB L j = true
  · rw [if_pos h, List.filter_cons_of_pos h]; rfl
  · rw [if_neg h, List.filter_cons_of_neg h, List.filter_nil, List.append_nil]
/-- Each dart is in just one face, once. -/
theorem faces_perm {L : List Int} {n : Nat} (hg : GoodG L n) : (facesK L n).flatten.Perm (dartsT L (4 * n)) := by
  have h := faces_is hg
  refine (List.perm_ext_iff_of_nodup h.met.1 (darts_nodup _ _)).2 fun k => ?_
  rw [mem_darts]
  exact ⟨fun hk => h.met.2 k hk, fun hk => h.all k hk.1 hk.2⟩

/-! Sums. -/
def smF (f : Nat → Int) : List Nat → Int
  | [] => 0
  | a :: l => f a + smF f l
theorem sm_append (f : Nat → Int) : ∀ l m, smF f (l ++ m) = smF f l + smF f m
  | [], m => by simp [smF]
  | a :: l, m => by simp only [List.cons_append, smF, sm_append f l m]; omega
theorem sm_perm (f : Nat → Int) {l m : List Nat} (h : l.Perm m) : smF f l = smF f m := by
  induction h with
  | nil => rfl
  | cons a _ ih => simp only [smF, ih]
  | swap a b l => simp only [smF]; omega
  | trans _ _ h1 h2 => exact h1.trans h2
theorem sm_map (f : Nat → Int) (g : Nat → Nat) : ∀ l, smF f (l.map g) = smF (fun k => f (g k)) l
  | [] => rfl
  | a :: l => by simp only [List.map_cons, smF, sm_map f g l]
theorem sm_congr {f g : Nat → Int} : ∀ {l : List Nat}, (∀ k ∈ l, f k = g k) → smF f l = smF g l
  | [], _ => rfl
  | a :: l, h => by simp only [smF, h a (by simp), sm_congr (l := l) (fun k hk => h k (by simp [hk]))]
theorem sm_flat (f : Nat → Int) : ∀ F : List (List Nat), smF f F.flatten = (F.map (smF f)).foldr (· + ·) 0
  | [] => rfl
  | a :: F => by simp only [List.flatten_cons, sm_append, List.map_cons, List.foldr_cons, sm_flat f F]
/-- The edges from their other ends are the same darts. -/
theorem rev_perm {L : List Int} {n : Nat} (hg : GoodG L n) : ((dartsT L (4 * n)).map (revK L)).Perm (dartsT L (4 * n)) := by
  have hinj : ((dartsT L (4 * n)).map (revK L)).Nodup := by
    rw [List.nodup_iff_pairwise_ne, List.pairwise_map]
    refine (darts_nodup L (4 * n)).imp_of_mem fun {a b} ha hb hne e => hne ?_
    rw [← rev_rev (mem_darts.1 ha) hg, ← rev_rev (mem_darts.1 hb) hg, e]
  refine (List.perm_ext_iff_of_nodup hinj (darts_nodup _ _)).2 fun k => ?_
  constructor
  · intro h
    obtain ⟨j, hj, rfl⟩ := List.mem_map.1 h
    exact mem_darts.2 (rev_dart (mem_darts.1 hj) hg)
  · intro h
    exact List.mem_map.2 ⟨revK L k, mem_darts.2 (rev_dart (mem_darts.1 h) hg), rev_rev (mem_darts.1 h) hg⟩
/-- How one turns that comes by a side. -/
def turnS (L : List Int) (j : Nat) : Int := 1 - (wayI L (j / 4) (opp (j % 4)) : Int)
theorem trn_rev {L : List Int} (k : Nat) : trnK L k = turnS L (revK L k) := by
  unfold trnK turnS wayK
  have := opp_lt (k % 4)
  rw [show revK L k / 4 = headK L k by unfold revK; omega, show revK L k % 4 = opp (k % 4) by unfold revK; omega, opp_opp (by omega)]
/-- How many sides of a cell lead on; whether any does. -/
def degK (L : List Int) (v : Nat) : Int := (if isB L (4 * v) = true then 1 else 0) + (if isB L (4 * v + 1) = true then 1 else 0) + (if isB L (4 * v + 2) = true then 1 else 0) + (if isB L (4 * v + 3) = true then 1 else 0)
def anyB (L : List Int) (v : Nat) : Bool := isB L (4 * v) || isB L (4 * v + 1) || isB L (4 * v + 2) || isB L (4 * v + 3)
def anyN (L : List Int) : Nat → Int
  | 0 => 0
  | v + 1 => anyN L v + if anyB L v = true then 1 else 0
theorem side_sum (L : List Int) (v : Nat) :
    (if isB L (4 * v) = true then turnS L (4 * v) else 0) + (if isB L (4 * v + 1) = true then turnS L (4 * v + 1) else 0) + (if isB L (4 * v + 2) = true then turnS L (4 * v + 2) else 0) + (if isB L (4 * v + 3) = true then turnS L (4 * v + 3) else 0) =
      2 * degK L v - 4 * (if anyB L v = true then 1 else 0) := by
  have b0 : isB L (4 * v) = decide (nxG L v 0 ≠ -1) := by unfold isB nxK; rw [show 4 * v / 4 = v by omega, show 4 * v % 4 = 0 by omega]
  have b1 : isB L (4 * v + 1) = decide (nxG L v 1 ≠ -1) := by unfold isB nxK; rw [show (4 * v + 1) / 4 = v by omega, show (4 * v + 1) % 4 = 1 by omega]
  have b2 : isB L (4 * v + 2) = decide (nxG L v 2 ≠ -1) := by unfold isB nxK; rw [show (4 * v + 2) / 4 = v by omega, show (4 * v + 2) % 4 = 2 by omega]
  have b3 : isB L (4 * v + 3) = decide (nxG L v 3 ≠ -1) := by unfold isB nxK; rw [show (4 * v + 3) / 4 = v by omega, show (4 * v + 3) % 4 = 3 by omega]
  unfold degK anyB turnS wayI opp
  rw [show 4 * v / 4 = v by omega, show (4 * v + 1) / 4 = v by omega, show (4 * v + 2) / 4 = v by omega, show (4 * v + 3) / 4 = v by omega,
    show 4 * v % 4 = 0 by omega, show (4 * v + 1) % 4 = 1 by omega, show (4 * v + 2) % 4 = 2 by omega, show (4 * v + 3) % 4 = 3 by omega, b0, b1, b2, b3]
  simp only [Nat.reduceAdd, Nat.reduceMod]
  by_cases h0 : nxG L v 0 = -1 <;> by_cases h1 : nxG L v 1 = -1 <;> by_cases h2 : nxG L v 2 = -1 <;> by_cases h3 : nxG L v 3 = -1 <;> simp [h0, h1, h2, h3]
theorem one_more (f : Nat → Int) (L : List Int) (j : Nat) : smF f (dartsT L (j + 1)) = smF f (dartsT L j) + if isB L j = true then f j else 0 := by
  rw [darts_more]
  by_cases h : isB L j = true
  · rw [if_pos h, if_pos h, sm_append]; simp only [smF]; omega
  · rw [if_neg h, if_neg h]; omega
theorem sum_sides (L : List Int) : ∀ n, smF (turnS L) (dartsT L (4 * n)) = 2 * smF (fun _ => 1) (dartsT L (4 * n)) - 4 * anyN L n
  | 0 => rfl
  | n + 1 => by
    have ih := sum_sides L n
    have hs := side_sum L n
    unfold degK at hs
    rw [show 4 * (n + 1) = 4 * n + 1 + 1 + 1 + 1 by omega, one_more, one_more, one_more, one_more, one_more (fun _ => 1), one_more (fun _ => 1), one_more (fun _ => 1), one_more (fun _ => 1), ih]
    simp only [anyN]
    omega
theorem sm_one (l : List Nat) : smF (fun _ => 1) l = l.length := by
  induction l with
  | nil => rfl
  | cons a l ih => simp only [smF, ih, List.length_cons]; omega
/-- As many darts lead East or North as West or South. -/
theorem darts_even {L : List Int} {n : Nat} (hg : GoodG L n) : ∃ h, (dartsT L (4 * n)).length = 2 * h := by
  have hp : ∀ k ∈ dartsT L (4 * n), (decide (revK L k % 4 < 2)) = !(decide (k % 4 < 2)) := by
    intro k _
    have : revK L k % 4 = opp (k % 4) := by have := opp_lt (k % 4); unfold revK; omega
    rw [this]
    by_cases h : k % 4 < 2
    · rw [decide_eq_true h, decide_eq_false (by unfold opp; omega)]; rfl
    · rw [decide_eq_false h, decide_eq_true (by unfold opp; omega)]; rfl
  have e1 : (dartsT L (4 * n)).countP (fun k => decide (k % 4 < 2)) = (dartsT L (4 * n)).countP (fun k => !decide (k % 4 < 2)) := by
    rw [← (rev_perm hg).countP_eq (fun k => decide (k % 4 < 2)), List.countP_map]
    exact List.countP_congr fun k hk => by
      show (decide (revK L k % 4 < 2)) = true ↔ _
      rw [hp k hk]
  have e2 := List.length_eq_countP_add_countP (fun k => decide (k % 4 < 2)) (l := dartsT L (4 * n))
  refine ⟨(dartsT L (4 * n)).countP (fun k => decide (k % 4 < 2)), ?_⟩
  have e3 : (dartsT L (4 * n)).countP (fun a => decide ¬(decide (a % 4 < 2)) = true) = (dartsT L (4 * n)).countP (fun k => !decide (k % 4 < 2)) := List.countP_congr fun k _ => by simp
  rw [e2, e3, ← e1]
  omega
/-- The turns of all faces are four times what there are more edges than cells that have any. -/
theorem faces_sum {L : List Int} {n : Nat} (hg : GoodG L n) : ∃ h : Nat, (facesK L n).flatten.length = 2 * h ∧ smF (trnK L) (facesK L n).flatten = 4 * ((h : Int) - anyN L n) := by
  obtain ⟨h, hh⟩ := darts_even hg
  have hp := faces_perm hg
  refine ⟨h, by rw [hp.length_eq, hh], ?_⟩
  rw [sm_perm _ hp, sm_congr (g := fun k => turnS L (revK L k)) (fun k _ => trn_rev k), ← sm_map (turnS L) (revK L), sm_perm _ (rev_perm hg), sum_sides, sm_one, hh]
  omega
end Go.Proofs.YtkakeakdgidigaaDoor.FcM

namespace Go.Proofs.YtkakeakdgidigaaDoor.FcM
open Go.Proofs.YtkakeakdgidigaaDoor.GrM

/-! A row whose elements follow one another, the last one followed by z. -/
def Lnk (b : Nat → Nat) : List Nat → Nat → Prop
  | [], _ => True
  | a :: l, z => b a = l.headD z ∧ Lnk b l z
theorem lnk_iff {b : Nat → Nat} : ∀ {l : List Nat} {z : Nat}, Lnk b l z ↔ ∀ i, i < l.length → b (l.getD i 0) = if i + 1 < l.length then l.getD (i + 1) 0 else z
  | [], z => by simp [Lnk]
  | a :: l, z => by
    rw [Lnk, lnk_iff (l := l)]
    constructor
    · rintro ⟨h1, h2⟩ i hi
      cases i with
      | zero =>
        cases l with
        | nil => simpa using h1
        | cons c l => simpa using h1
      | succ i =>
        have := h2 i (by simpa using hi)
        simpa using this
    · intro h
      refine ⟨?_, fun i hi => ?_⟩
      · have := h 0 (by simp)
        cases l with
        | nil => simpa using this
        | cons c l => simpa using this
      · have := h (i + 1) (by simpa using hi)
        simpa using this
theorem cyc_lnk {b : Nat → Nat} {l : List Nat} : Cyc b l ↔ l ≠ [] ∧ Lnk b l (l.headD 0) := by
  unfold Cyc
  refine and_congr_right fun hne => ?_
  rw [lnk_iff]
  have hl : 0 < l.length := List.length_pos_iff.2 hne
  have h0 : l.getD 0 0 = l.headD 0 := by cases l <;> rfl
  constructor
  · intro h i hi
    rw [h i hi]
    by_cases hlt : i + 1 < l.length
    · rw [if_pos hlt, Nat.mod_eq_of_lt hlt]
    · rw [if_neg hlt, show i + 1 = l.length by omega, Nat.mod_self, h0]
  · intro h i hi
    rw [h i hi]
    by_cases hlt : i + 1 < l.length
    · rw [if_pos hlt, Nat.mod_eq_of_lt hlt]
    · rw [if_neg hlt, show i + 1 = l.length by omega, Nat.mod_self, h0]
theorem lnk_append {b : Nat → Nat} : ∀ {l m : List Nat} {z : Nat}, Lnk b l (m.headD z) → Lnk b m z → Lnk b (l ++ m) z
  | [], _, _, _, h => h
  | a :: l, m, z, h1, h2 => by
    refine ⟨?_, lnk_append h1.2 h2⟩
    rw [h1.1]
    cases l <;> rfl
/-- Each element in place of others: what follows still does. -/
theorem lnk_flat {b b' h : Nat → Nat} {s : Nat → List Nat} : ∀ {l : List Nat} {z : Nat}, (∀ a ∈ l, (s a).headD 0 = h a ∧ s a ≠ [] ∧ Lnk b' (s a) (h (b a))) → Lnk b l z → Lnk b' (l.flatMap s) (h z)
  | [], _, _, _ => trivial
  | a :: l, z, hs, hl => by
    obtain ⟨h1, h2, h3⟩ := hs a (by simp)
    rw [List.flatMap_cons]
    refine lnk_append ?_ (lnk_flat (fun c hc => hs c (by simp [hc])) hl.2)
    have e : (l.flatMap s).headD (h z) = h (l.headD z) := by
      cases l with
      | nil => rfl
      | cons c l =>
        obtain ⟨g1, g2, _⟩ := hs c (by simp)
        rw [List.flatMap_cons]
        cases hc : s c with
        | nil => exact absurd hc g2
        | cons x r =>
          rw [hc] at g1
          exact g1
    rw [e, ← hl.1]
    exact h3
theorem cyc_flat {b b' h : Nat → Nat} {s : Nat → List Nat} {l : List Nat} (hs : ∀ a ∈ l, (s a).headD 0 = h a ∧ s a ≠ [] ∧ Lnk b' (s a) (h (b a))) (hl : Cyc b l) : Cyc b' (l.flatMap s) := by
  obtain ⟨hne, hl⟩ := cyc_lnk.1 hl
  cases l with
  | nil => exact absurd rfl hne
  | cons a l =>
    obtain ⟨h1, h2, _⟩ := hs a (by simp)
    have hL := lnk_flat hs hl
    have e : ((a :: l).flatMap s).headD 0 = h a := by
      rw [List.flatMap_cons]
      cases hc : s a with
      | nil => exact absurd hc h2
      | cons x r => rw [hc] at h1; exact h1
    refine cyc_lnk.2 ⟨?_, ?_⟩
    · rw [List.flatMap_cons]
      cases hc : s a with
      | nil => exact absurd hc h2
      | cons x r => simp
    · rw [e]; exact hL

/-! Written from another place on. -/
def rot {α : Type} (l : List α) (i : Nat) : List α := l.drop i ++ l.take i
theorem iter_cyc {b : Nat → Nat} {l : List Nat} (h : Cyc b l) {i : Nat} (hi : i < l.length) : ∀ m, Nat.repeat b m (l.getD i 0) = l.getD ((i + m) % l.length) 0
  | 0 => by rw [Nat.repeat, Nat.add_zero, Nat.mod_eq_of_lt hi]
  | m + 1 => by
    have hl : 0 < l.length := by omega
    rw [Nat.repeat, iter_cyc h hi m, h.2 _ (Nat.mod_lt _ hl), Nat.mod_add_mod, Nat.add_assoc]
theorem rot_at {α : Type} [Inhabited α] {l : List α} {s m : Nat} (hs : s < l.length) (hm : m < l.length) (d : α) : (rot l s).getD m d = l.getD ((s + m) % l.length) d := by
  unfold rot
  rw [List.getD_eq_getElem?_getD, List.getD_eq_getElem?_getD]
  congr 1
  by_cases h : s + m < l.length
  · rw [List.getElem?_append_left (by rw [List.length_drop]; omega), List.getElem?_drop, Nat.mod_eq_of_lt h]
  · rw [List.getElem?_append_right (by rw [List.length_drop]; omega), List.length_drop, List.getElem?_take, if_pos (by omega)]
    rw [show (s + m) % l.length = m - (l.length - s) by
      rw [show s + m = (m - (l.length - s)) + l.length by omega, Nat.add_mod_right, Nat.mod_eq_of_lt (by omega)]]
theorem rot_len {α : Type} (l : List α) (i : Nat) : (rot l i).length = l.length := by unfold rot; rw [List.length_append, List.length_drop, List.length_take]; omega
theorem rot_perm {α : Type} (l : List α) (i : Nat) : (rot l i).Perm l := by
  unfold rot
  refine List.perm_append_comm.trans ?_
  rw [List.take_append_drop]
theorem list_ext_getD {l m : List Nat} (hl : l.length = m.length) (h : ∀ i, i < l.length → l.getD i 0 = m.getD i 0) : l = m := by
  apply List.ext_getElem hl
  intro i h1 h2
  have := h i h1
  rw [List.getD_eq_getElem?_getD, List.getD_eq_getElem?_getD, List.getElem?_eq_getElem h1, List.getElem?_eq_getElem h2] at this
  simpa using this
/-- Of two that lead round by the same, with an element in common, one is the other from another place on. -/
theorem cyc_rot {b : Nat → Nat} {l m : List Nat} (hl : Cyc b l) (hm : Cyc b m) (nl : l.Nodup) (nm : m.Nodup) {x : Nat} (h1 : x ∈ l) (h2 : x ∈ m) : ∃ s, s < l.length ∧ m = rot l s := by
  obtain ⟨i, hi, e1⟩ := List.mem_iff_getElem.1 h1
  obtain ⟨j, hj, e2⟩ := List.mem_iff_getElem.1 h2
  have g1 : l.getD i 0 = x := by rw [List.getD_eq_getElem?_getD, List.getElem?_eq_getElem hi]; exact e1
  have g2 : m.getD j 0 = x := by rw [List.getD_eq_getElem?_getD, List.getElem?_eq_getElem hj]; exact e2
  have key : ∀ q, l.getD ((i + q) % l.length) 0 = m.getD ((j + q) % m.length) 0 := fun q => by
    rw [← iter_cyc hl hi q, ← iter_cyc hm hj q, g1, g2]
  have hl0 : 0 < l.length := by omega
  have hm0 : 0 < m.length := by omega
  have len : l.length = m.length := by
    rcases Nat.lt_trichotomy l.length m.length with h | h | h
    · have := key l.length
      rw [Nat.add_mod_right, Nat.mod_eq_of_lt hi, g1, ← g2] at this
      have := getD_inj nm hj (Nat.mod_lt _ hm0) this
      exfalso
      by_cases h9 : j + l.length < m.length
      · rw [Nat.mod_eq_of_lt h9] at this; omega
      · rw [show j + l.length = (j + l.length - m.length) + m.length by omega, Nat.add_mod_right, Nat.mod_eq_of_lt (by omega)] at this
        omega
    · exact h
    · have := key m.length
      rw [Nat.add_mod_right, Nat.mod_eq_of_lt hj, g2, ← g1] at this
      have := getD_inj nl hi (Nat.mod_lt _ hl0) this.symm
      exfalso
      by_cases h9 : i + m.length < l.length
      · rw [Nat.mod_eq_of_lt h9] at this; omega
      · rw [show i + m.length = (i + m.length - l.length) + l.length by omega, Nat.add_mod_right, Nat.mod_eq_of_lt (by omega)] at this
        omega
  refine ⟨(i + (l.length - j)) % l.length, Nat.mod_lt _ hl0, list_ext_getD (by rw [rot_len, len]) fun q hq => ?_⟩
  have hql : q < l.length := by omega
  rw [rot_at (Nat.mod_lt _ hl0) hql, Nat.mod_add_mod]
  have := key (l.length - j + q)
  rw [show j + (l.length - j + q) = q + m.length by omega, Nat.add_mod_right, Nat.mod_eq_of_lt hq, show i + (l.length - j + q) = i + (l.length - j) + q by omega] at this
  exact this.symm
/-- Whatever doesn't hang on where one begins is the same of two such lists of the same elements, but for the order. -/
theorem cycs_perm {β : Type} {b : Nat → Nat} {c : List Nat → β} (hc : ∀ l s, s < l.length → c (rot l s) = c l) : ∀ {A B : List (List Nat)}, (∀ l ∈ A, Cyc b l) → (∀ l ∈ B, Cyc b l) → A.flatten.Nodup → B.flatten.Nodup → (∀ k, k ∈ A.flatten ↔ k ∈ B.flatten) → (A.map c).Perm (B.map c)
  | [], B, _, hB, _, _, he => by
    cases B with
    | nil => exact List.Perm.refl _
    | cons l B =>
      have hne := (hB l (by simp)).1
      cases l with
      | nil => exact absurd rfl hne
      | cons x l =>
        have := (he x).2 (by simp)
        simp at this
  | a :: A, B, hA, hB, nA, nB, he => by
    have ha := hA a (by simp)
    obtain ⟨x, hx⟩ : ∃ x, x ∈ a := by
      cases a with
      | nil => exact absurd rfl ha.1
      | cons x l => exact ⟨x, by simp⟩
    obtain ⟨m, hm, hxm⟩ := List.mem_flatten.1 ((he x).1 (by simp [hx]))
    have pB := List.perm_cons_erase hm
    rw [List.flatten_cons, List.nodup_append] at nA
    have nB' : (m :: B.erase m).flatten.Nodup := (pB.flatten.nodup_iff).1 nB
    rw [List.flatten_cons, List.nodup_append] at nB'
    obtain ⟨s, hs, rfl⟩ := cyc_rot ha (hB m hm) nA.1 nB'.1 hx hxm
    have ih := cycs_perm hc (A := A) (B := B.erase (rot a s)) (fun l hl => hA l (by simp [hl])) (fun l hl => hB l (List.mem_of_mem_erase hl)) nA.2.1 nB'.2.1 (fun k => by
      have e1 := he k
      have e2 : k ∈ B.flatten ↔ k ∈ (rot a s :: B.erase (rot a s)).flatten := pB.flatten.mem_iff
      have e3 : k ∈ rot a s ↔ k ∈ a := (rot_perm a s).mem_iff
      rw [e2, List.flatten_cons, List.mem_append, List.flatten_cons, List.mem_append, e3] at e1
      constructor
      · intro h
        rcases e1.1 (Or.inr h) with h' | h'
        · exact absurd rfl (nA.2.2 k h' k h)
        · exact h'
      · intro h
        rcases e1.2 (Or.inr h) with h' | h'
        · exact absurd rfl (nB'.2.2 k (e3.2 h') k h)
        · exact h')
    refine List.Perm.trans ?_ (pB.map c).symm
    rw [List.map_cons, List.map_cons, hc a s hs]
    exact ih.cons _
end Go.Proofs.YtkakeakdgidigaaDoor.FcM

namespace Go.Proofs.YtkakeakdgidigaaDoor.FcM
open Go.Proofs.YtkakeakdgidigaaDoor.GrM

/-! The least way of writing letters round. -/
def minL (a b : List UInt8) : List UInt8 := if a < b ∨ a = b then a else b
theorem minL_le (a b : List UInt8) : minL a b ≤ a ∧ minL a b ≤ b ∧ (minL a b = a ∨ minL a b = b) := by
  unfold minL
  by_cases h : a < b ∨ a = b
  · rw [if_pos h]
    refine ⟨List.le_refl _, ?_, Or.inl rfl⟩
    rcases h with h | h
    · exact List.le_of_lt h
    · rw [h]; exact List.le_refl _
  · rw [if_neg h]
    refine ⟨?_, List.le_refl _, Or.inr rfl⟩
    rcases List.le_total a b with h1 | h1
    · exfalso
      by_cases h2 : b < a
      · exact absurd h2 (List.not_lt.2 h1)
      · have h3 : b ≤ a ∨ a < b := by
          by_cases h4 : a < b
          · exact Or.inr h4
          · exact Or.inl (List.not_lt.1 h4)
        rcases h3 with h3 | h3
        · exact h (Or.inr (List.le_antisymm h1 h3))
        · exact h (Or.inl h3)
    · exact h1
def stepC (s : List UInt8) (b : List UInt8) (i : Nat) : List UInt8 := minL b (rot s i)
def cnL (s : List UInt8) (m : Nat) : List UInt8 := (List.range m).foldl (stepC s) s
/-- The least of all ways. -/
def canL (s : List UInt8) : List UInt8 := cnL s s.length
theorem cn_more (s : List UInt8) (m : Nat) : cnL s (m + 1) = minL (cnL s m) (rot s m) := by unfold cnL; rw [List.range_succ, List.foldl_append]; rfl
theorem rot_zero {α : Type} (l : List α) : rot l 0 = l := by unfold rot; simp
theorem cn_is (s : List UInt8) : ∀ m, (∃ i, i ≤ m ∧ cnL s m = rot s i) ∧ cnL s m ≤ s ∧ ∀ i, i < m → cnL s m ≤ rot s i
  | 0 => ⟨⟨0, Nat.le_refl _, (rot_zero s).symm⟩, List.le_refl _, fun i hi => absurd hi (by omega)⟩
  | m + 1 => by
    obtain ⟨⟨j, hj, e⟩, h1, h2⟩ := cn_is s m
    obtain ⟨a, b, c⟩ := minL_le (cnL s m) (rot s m)
    rw [cn_more]
    refine ⟨?_, List.le_trans a h1, fun i hi => ?_⟩
    · rcases c with c | c
      · exact ⟨j, by omega, by rw [c, e]⟩
      · exact ⟨m, by omega, c⟩
    · by_cases h : i = m
      · subst h; exact b
      · exact List.le_trans a (h2 i (by omega))
theorem rot_all {α : Type} (l : List α) (i : Nat) (h : l.length ≤ i) : rot l i = l := by unfold rot; rw [List.drop_of_length_le h, List.take_of_length_le h]; rfl
theorem rot_rot {α : Type} [Inhabited α] (l : List α) {i j : Nat} (hi : i < l.length) (hj : j < l.length) : rot (rot l i) j = rot l ((i + j) % l.length) := by
  have hl : 0 < l.length := by omega
  apply List.ext_getElem?
  intro q
  by_cases hq : q < l.length
  · have e1 : ∀ (m : List α) (hm : q < m.length), m[q]? = some (m.getD q default) := fun m hm => by rw [List.getD_eq_getElem?_getD, List.getElem?_eq_getElem hm]; rfl
    rw [e1 _ (by rw [rot_len, rot_len]; exact hq), e1 _ (by rw [rot_len]; exact hq), rot_at (by rw [rot_len]; exact hj) (by rw [rot_len]; exact hq), rot_len, rot_at hi (Nat.mod_lt _ hl), rot_at (Nat.mod_lt _ hl) hq]
    congr 2
    rw [Nat.add_mod_mod, Nat.mod_add_mod, Nat.add_assoc]
  · rw [List.getElem?_eq_none (by rw [rot_len, rot_len]; omega), List.getElem?_eq_none (by rw [rot_len]; omega)]
/-- It doesn't hang on where one begins. -/
theorem can_rot (s : List UInt8) (j : Nat) : canL (rot s j) = canL s := by
  by_cases hj : j < s.length
  · obtain ⟨⟨a, ha, ea⟩, a1, a2⟩ := cn_is (rot s j) s.length
    obtain ⟨⟨b, hb, eb⟩, b1, b2⟩ := cn_is s s.length
    unfold canL
    rw [rot_len]
    have hl : 0 < s.length := by omega
    have le1 : ∀ i, cnL s s.length ≤ rot s i := fun i => by
      by_cases h : i < s.length
      · exact b2 i h
      · rw [rot_all s i (by omega)]; exact b1
    have le2 : ∀ i, cnL (rot s j) s.length ≤ rot (rot s j) i := fun i => by
      by_cases h : i < s.length
      · exact a2 i h
      · rw [rot_all _ i (by rw [rot_len]; omega)]; exact a1
    apply List.le_antisymm
    · rw [eb]
      by_cases h : b < s.length
      · have e : rot s b = rot (rot s j) ((b + (s.length - j)) % s.length) := by
          rw [rot_rot s hj (Nat.mod_lt _ hl), Nat.add_mod_mod, show j + (b + (s.length - j)) = b + s.length by omega, Nat.add_mod_right, Nat.mod_eq_of_lt h]
        rw [e]; exact le2 _
      · have e : rot s b = rot (rot s j) ((s.length - j) % s.length) := by
          rw [rot_all s b (by omega), rot_rot s hj (Nat.mod_lt _ hl), Nat.add_mod_mod, show j + (s.length - j) = s.length by omega, Nat.mod_self, rot_zero]
        rw [e]; exact le2 _
    · rw [ea]
      by_cases h : a < s.length
      · rw [rot_rot s hj h]; exact le1 _
      · rw [rot_all _ a (by rw [rot_len]; omega)]; exact le1 _
  · rw [rot_all s j (by omega)]
/-! The words of a face. -/
def wrdT (t : Nat → Int) (x : List Nat) : List Int := (x.map t).filter fun a => decide (a ≠ 0)
def bytL (z : List Int) : List UInt8 := z.map fun a => UInt8.ofNat (109 + a).toNat
def wordK (L : List Int) (x : List Nat) : List UInt8 := canL (bytL (wrdT (trnK L) x))
theorem wrd_append (t : Nat → Int) (x y : List Nat) : wrdT t (x ++ y) = wrdT t x ++ wrdT t y := by unfold wrdT; rw [List.map_append, List.filter_append]
theorem word_rot (L : List Int) (x : List Nat) (s : Nat) : wordK L (rot x s) = wordK L x := by
  unfold wordK
  have e : bytL (wrdT (trnK L) (rot x s)) = rot (bytL (wrdT (trnK L) x)) (bytL (wrdT (trnK L) (x.take s))).length := by
    have h1 : bytL (wrdT (trnK L) x) = bytL (wrdT (trnK L) (x.take s)) ++ bytL (wrdT (trnK L) (x.drop s)) := by
      conv => lhs; rw [← List.take_append_drop s x]
      rw [wrd_append]; unfold bytL; rw [List.map_append]
    rw [h1]
    unfold rot
    rw [List.drop_left, List.take_left, wrd_append]
    unfold bytL
    rw [List.map_append]
  rw [e, can_rot]
theorem wrd_flat {t t' : Nat → Int} {s : Nat → List Nat} : ∀ {x : List Nat}, (∀ a ∈ x, wrdT t' (s a) = wrdT t [a]) → wrdT t' (x.flatMap s) = wrdT t x
  | [], _ => rfl
  | a :: x, h => by
    rw [List.flatMap_cons, wrd_append, h a (by simp), wrd_flat (x := x) (fun c hc => h c (by simp [hc])), ← wrd_append]; rfl
theorem flat_flat (s : Nat → List Nat) : ∀ A : List (List Nat), (A.map (·.flatMap s)).flatten = A.flatten.flatMap s
  | [] => rfl
  | a :: A => by rw [List.map_cons, List.flatten_cons, flat_flat s A, List.flatten_cons, List.flatMap_append]
/-- Cells whose darts are those of others, each in place of some: their faces are told alike. -/
theorem told_same {L M : List Int} {n m : Nat} (hg : GoodG L n) (hm : GoodG M m) {h : Nat → Nat} {s : Nat → List Nat}
    (h1 : ∀ a, isK L n a → (s a).headD 0 = h a ∧ s a ≠ [] ∧ Lnk (behK M) (s a) (h (behK L a))) (h2 : ∀ a, isK L n a → (s a).Nodup)
    (h3 : ∀ a c, isK L n a → isK L n c → a ≠ c → ∀ x ∈ s a, ∀ y ∈ s c, x ≠ y) (h4 : ∀ k, isK M m k ↔ ∃ a, isK L n a ∧ k ∈ s a) (h5 : ∀ a, isK L n a → wrdT (trnK M) (s a) = wrdT (trnK L) [a]) :
    ((facesK L n).map (wordK L)).Perm ((facesK M m).map (wordK M)) := by
  have fL := faces_is hg
  have fM := faces_is hm
  have hd : ∀ x ∈ facesK L n, ∀ a ∈ x, isK L n a := fun x hx a ha => fL.met.2 a (List.mem_flatten.2 ⟨x, hx, ha⟩)
  have e : (facesK L n).map (wordK L) = ((facesK L n).map (·.flatMap s)).map (wordK M) := by
    rw [List.map_map]
    refine List.map_congr_left fun x hx => ?_
    show wordK L x = wordK M (x.flatMap s)
    unfold wordK
    rw [wrd_flat (fun a ha => h5 a (hd x hx a ha))]
  rw [e]
  refine cycs_perm (b := behK M) (fun l i _ => word_rot M l i) (fun l hl => ?_) fM.cyc ?_ fM.met.1 (fun k => ?_)
  · obtain ⟨x, hx, rfl⟩ := List.mem_map.1 hl
    exact cyc_flat (fun a ha => h1 a (hd x hx a ha)) (fL.cyc x hx)
  · rw [flat_flat, List.nodup_iff_pairwise_ne, List.pairwise_flatMap]
    refine ⟨fun a ha => h2 a (fL.met.2 a ha), fL.met.1.imp_of_mem fun {a c} ha hc hne => h3 a c (fL.met.2 a ha) (fL.met.2 c hc) hne⟩
  · rw [flat_flat, List.mem_flatMap]
    constructor
    · rintro ⟨a, ha, hk⟩
      have hkd := (h4 k).2 ⟨a, fL.met.2 a ha, hk⟩
      exact fM.all k hkd.1 hkd.2
    · intro hk
      obtain ⟨a, ha, hka⟩ := (h4 k).1 (fM.met.2 k hk)
      exact ⟨a, fL.all a ha.1 ha.2, hka⟩
end Go.Proofs.YtkakeakdgidigaaDoor.FcM

namespace Go.Proofs.YtkakeakdgidigaaDoor.FcM
open Go.Proofs.YtkakeakdgidigaaDoor.GrM

theorem way_congr {L M : List Int} {v w d e : Nat} (h : ∀ j, (nxG L v ((d + j) % 4) = -1 ↔ nxG M w ((e + j) % 4) = -1)) : wayI L v d = wayI M w e := by
  unfold wayI
  have h0 := h 0; have h1 := h 1; have h3 := h 3
  rw [Nat.add_zero, Nat.add_zero] at h0
  simp only [ne_eq, h0, h1, h3]
theorem isK.cell {L : List Int} {n k : Nat} (h : isK L n k) : k / 4 < n := by have := h.1; omega
/-! Split. -/
/-- What a dart becomes. -/
def splS (n v d w : Nat) (k : Nat) : List Nat := if k = 4 * v + d then [k, 4 * n + d] else if k = 4 * w + opp d then [k, 4 * n + opp d] else [k]
section
variable {L : List Int} {n v d w : Nat} {o : Int}
theorem split_told (hl : L.length = n * 8) (hg : GoodG L n) (hv : v < n) (hd : d < 4) (h1 : nxG L v d = w) (ho : owG L v d = o) :
    ((facesK L n).map (wordK L)).Perm ((facesK (splitG L n v d w o) (n + 1)).map (wordK (splitG L n v d w o))) := by
  have hs := hg.side hv hd
  rw [h1] at hs
  have hw : w < n ∧ (w : Int) ≠ v ∧ nxG L w (opp d) = v := by
    rcases hs with h | ⟨_, a, b, c, _⟩
    · omega
    · rw [Int.toNat_natCast] at c; exact ⟨by omega, b, c⟩
  obtain ⟨hw, hwv, hb⟩ := hw
  have hM : GoodG (splitG L n v d w o) (n + 1) := split_good hl hg hv hw hd h1 ho
  have ol := opp_lt d
  have on := opp_ne d
  have oo := opp_opp hd
  have nx : ∀ a e, a < n → e < 4 → nxG (splitG L n v d w o) a e = if a = w ∧ e = opp d then (n : Int) else if a = v ∧ e = d then (n : Int) else nxG L a e := fun a e ha he => nx_split hl hv hw hd ha he
  have nn : ∀ e, e < 4 → nxG (splitG L n v d w o) n e = if e = d then (w : Int) else if e = opp d then (v : Int) else -1 := fun e he => nx_split_new hl hv hw hd he
  generalize splitG L n v d w o = M at hM nx nn ⊢
  have F1 : ∀ a e, a < n → e < 4 → (nxG M a e = -1 ↔ nxG L a e = -1) := fun a e ha he => by
    rw [nx a e ha he]
    by_cases c1 : a = w ∧ e = opp d
    · obtain ⟨rfl, rfl⟩ := c1
      rw [if_pos ⟨rfl, rfl⟩, hb]; omega
    · rw [if_neg c1]
      by_cases c2 : a = v ∧ e = d
      · obtain ⟨rfl, rfl⟩ := c2
        rw [if_pos ⟨rfl, rfl⟩, h1]; omega
      · rw [if_neg c2]
  have W1 : ∀ a e, a < n → wayI M a e = wayI L a e := fun a e ha => way_congr fun j => F1 a _ ha (Nat.mod_lt _ (by decide))
  have Wn : ∀ e, e < 4 → (e = d ∨ e = opp d) → wayI M n e = 1 := fun e he hde => by
    unfold wayI
    rw [nn _ (Nat.mod_lt _ (by decide)), nn _ (Nat.mod_lt _ (by decide)), Nat.mod_eq_of_lt he]
    rw [if_neg (c := (e + 1) % 4 = d) (by unfold opp at hde; omega), if_neg (c := (e + 1) % 4 = opp d) (by unfold opp at hde ⊢; omega), if_neg (by simp)]
    rw [if_pos]
    rcases hde with rfl | rfl
    · rw [if_pos rfl]; omega
    · rw [if_neg on, if_pos rfl]; omega
  -- where each leads
  have lead : ∀ (K : List Int) (k a e q : Nat), e < 4 → k = 4 * a + e → nxG K a e = (q : Int) → headK K k = q ∧ behK K k = 4 * q + (e + ordI (wayI K q e)) % 4 ∧ trnK K k = 1 - (wayI K q e : Int) := by
    intro K k a e q he hk hq
    subst hk
    have e1 : (4 * a + e) / 4 = a := by omega
    have e2 : (4 * a + e) % 4 = e := by omega
    have hh : headK K (4 * a + e) = q := by unfold headK nxK; rw [e1, e2, hq]; rfl
    refine ⟨hh, ?_, ?_⟩
    · unfold behK dirK wayK; rw [hh, e2]
    · unfold trnK wayK; rw [hh, e2]
  have ord1 : ordI 1 = 0 := rfl
  have hv0 := lead L (4 * v + d) v d w hd rfl h1
  have hw0 := lead L (4 * w + opp d) w (opp d) v ol rfl hb
  have hv1 := lead M (4 * v + d) v d n hd rfl (by rw [nx v d hv hd, if_neg (by rintro ⟨h, _⟩; omega), if_pos ⟨rfl, rfl⟩])
  have hw1 := lead M (4 * w + opp d) w (opp d) n ol rfl (by rw [nx w _ hw ol, if_pos ⟨rfl, rfl⟩])
  have hv2 := lead M (4 * n + d) n d w hd rfl (by rw [nn d hd, if_pos rfl])
  have hw2 := lead M (4 * n + opp d) n (opp d) v ol rfl (by rw [nn _ ol, if_neg on, if_pos rfl])
  rw [Wn d hd (Or.inl rfl), ord1] at hv1
  rw [Wn _ ol (Or.inr rfl), ord1] at hw1
  rw [W1 w d hw] at hv2
  rw [W1 v _ hv] at hw2
  have oth : ∀ k, isK L n k → k ≠ 4 * v + d → k ≠ 4 * w + opp d → behK M k = behK L k ∧ trnK M k = trnK L k := by
    intro k hk c0 c1
    obtain ⟨g1, g2, _⟩ := hk.good hg
    have hk4 := hk.cell
    have e0 : k = 4 * (k / 4) + k % 4 := by omega
    have A := lead L k (k / 4) (k % 4) (headK L k) (by omega) e0 g1
    have B := lead M k (k / 4) (k % 4) (headK L k) (by omega) e0 (by
      rw [nx _ _ hk4 (by omega), if_neg (by rintro ⟨h, h'⟩; omega), if_neg (by rintro ⟨h, h'⟩; omega)]; exact g1)
    rw [W1 _ _ g2] at B
    exact ⟨by rw [A.2.1, B.2.1], by rw [A.2.2, B.2.2]⟩
  have ne01 : 4 * w + opp d ≠ 4 * v + d := by omega
  refine told_same hg hM (h := id) (s := splS n v d w) ?_ ?_ ?_ ?_ ?_
  · intro a ha
    unfold splS
    by_cases c0 : a = 4 * v + d
    · subst c0
      rw [if_pos rfl]
      refine ⟨rfl, by simp, ?_, ?_, trivial⟩
      · rw [hv1.2.1]; show 4 * n + (d + 0) % 4 = 4 * n + d; rw [Nat.add_zero, Nat.mod_eq_of_lt hd]
      · rw [hv2.2.1]; show _ = behK L _; rw [hv0.2.1]
    · rw [if_neg c0]
      by_cases c1 : a = 4 * w + opp d
      · subst c1
        rw [if_pos rfl]
        refine ⟨rfl, by simp, ?_, ?_, trivial⟩
        · rw [hw1.2.1]; show 4 * n + (opp d + 0) % 4 = 4 * n + opp d; rw [Nat.add_zero, Nat.mod_eq_of_lt ol]
        · rw [hw2.2.1]; show _ = behK L _; rw [hw0.2.1]
      · rw [if_neg c1]
        exact ⟨rfl, by simp, (oth a ha c0 c1).1, trivial⟩
  · intro a ha
    have := ha.1
    unfold splS
    split
    · simp; omega
    · split
      · simp; omega
      · simp
  · intro a c ha hc hne x hx y hy
    have := ha.1
    have := hc.1
    unfold splS at hx hy
    split at hx <;> split at hy <;> (try split at hx) <;> (try split at hy) <;> simp at hx hy <;> omega
  · intro k
    have dv : isK L n (4 * v + d) := ⟨by omega, by unfold nxK; rw [show (4 * v + d) / 4 = v by omega, show (4 * v + d) % 4 = d by omega, h1]; omega⟩
    have dw : isK L n (4 * w + opp d) := ⟨by omega, by unfold nxK; rw [show (4 * w + opp d) / 4 = w by omega, show (4 * w + opp d) % 4 = opp d by omega, hb]; omega⟩
    constructor
    · rintro ⟨g1, g2⟩
      by_cases hk : k / 4 < n
      · refine ⟨k, ⟨by omega, fun h => g2 ((F1 _ _ hk (by omega)).2 h)⟩, ?_⟩
        unfold splS; split
        · simp
        · split <;> simp
      · have e : k / 4 = n := by omega
        unfold nxK at g2
        rw [e, nn _ (by omega)] at g2
        by_cases c0 : k % 4 = d
        · refine ⟨_, dv, ?_⟩
          unfold splS; rw [if_pos rfl]; simp; right; omega
        · rw [if_neg c0] at g2
          by_cases c1 : k % 4 = opp d
          · refine ⟨_, dw, ?_⟩
            unfold splS; rw [if_neg ne01, if_pos rfl]; simp; right; omega
          · rw [if_neg c1] at g2; exact absurd rfl g2
    · rintro ⟨a, ha, hk⟩
      have old : k = a → isK M (n + 1) k := fun e => by
        subst e
        have := ha.1
        exact ⟨by omega, fun h => ha.2 ((F1 _ _ ha.cell (by omega)).1 h)⟩
      unfold splS at hk
      split at hk
      · simp at hk
        rcases hk with hk | hk
        · exact old hk
        · refine ⟨by omega, ?_⟩
          unfold nxK; rw [hk, show (4 * n + d) / 4 = n by omega, show (4 * n + d) % 4 = d by omega, nn d hd, if_pos rfl]; omega
      · split at hk
        · simp at hk
          rcases hk with hk | hk
          · exact old hk
          · refine ⟨by omega, ?_⟩
            unfold nxK; rw [hk, show (4 * n + opp d) / 4 = n by omega, show (4 * n + opp d) % 4 = opp d by omega, nn _ ol, if_neg on, if_pos rfl]; omega
        · simp at hk; exact old hk
  · intro a ha
    unfold splS
    by_cases c0 : a = 4 * v + d
    · subst c0
      rw [if_pos rfl]
      unfold wrdT
      simp only [List.map_cons, List.map_nil, hv1.2.2, hv2.2.2, hv0.2.2]
      rfl
    · rw [if_neg c0]
      by_cases c1 : a = 4 * w + opp d
      · subst c1
        rw [if_pos rfl]
        unfold wrdT
        simp only [List.map_cons, List.map_nil, hw1.2.2, hw2.2.2, hw0.2.2]
        rfl
      · rw [if_neg c1]
        unfold wrdT
        simp only [List.map_cons, List.map_nil, (oth a ha c0 c1).2]
end
/-! Turned. -/
def lftK (k : Nat) : Nat := 4 * (k / 4) + lft (k % 4)
theorem lft_add (d j : Nat) : (lft d + j) % 4 = lft ((d + j) % 4) := by unfold lft; omega
theorem turn_told {L : List Int} {n : Nat} (hg : GoodG L n) : ((facesK L n).map (wordK L)).Perm ((facesK (turnG L n) n).map (wordK (turnG L n))) := by
  have hM : GoodG (turnG L n) n := turn_good.2 hg
  have nx : ∀ a e, a < n → e < 4 → nxG (turnG L n) a (lft e) = nxG L a e := fun a e ha he => nx_turn L ha he
  generalize turnG L n = M at hM nx ⊢
  have c4 : ∀ k, lftK k / 4 = k / 4 := fun k => by have := lft_lt (k % 4); unfold lftK; omega
  have m4 : ∀ k, lftK k % 4 = lft (k % 4) := fun k => by have := lft_lt (k % 4); unfold lftK; omega
  have W : ∀ a e, a < n → wayI M a (lft e) = wayI L a e := fun a e ha => way_congr fun j => by rw [lft_add, nx a _ ha (Nat.mod_lt _ (by decide))]
  have inj : ∀ a c, lftK a = lftK c → a = c := fun a c h => by
    have h1 := c4 a; have h2 := c4 c; have h3 := m4 a; have h4 := m4 c
    rw [h] at h1 h3
    have := lft_inj (d := a % 4) (e := c % 4) (by omega) (by omega) (by rw [← h3, h4])
    omega
  have hx : ∀ a, a / 4 < n → nxK M (lftK a) = nxK L a := fun a ha => by unfold nxK; rw [c4, m4, nx _ _ ha (by omega)]
  have key : ∀ a, isK L n a → behK M (lftK a) = lftK (behK L a) ∧ trnK M (lftK a) = trnK L a := fun a ha => by
    have hh : headK M (lftK a) = headK L a := by unfold headK; rw [hx a ha.cell]
    have hn := (ha.good hg).2.1
    have hw : wayK M (lftK a) = wayK L a := by unfold wayK; rw [hh, m4, W _ _ hn]
    refine ⟨?_, by unfold trnK; rw [hw]⟩
    have e1 := beh_cell L a
    have e2 := beh_dir L a
    unfold lftK
    rw [e1, e2]
    show 4 * headK M (lftK a) + dirK M (lftK a) = _
    rw [hh]
    unfold dirK
    rw [hw, m4, lft_add]
  refine told_same hg hM (h := lftK) (s := fun a => [lftK a]) ?_ ?_ ?_ ?_ ?_
  · intro a ha
    exact ⟨rfl, by simp, (key a ha).1, trivial⟩
  · intro a _; simp
  · intro a c _ _ hne x hx y hy
    simp at hx hy
    subst hx hy
    exact fun h => hne (inj a c h)
  · intro k
    constructor
    · rintro ⟨g1, g2⟩
      obtain ⟨e, he, hk⟩ := lft_all (e := k % 4) (by omega)
      have hq : k = lftK (4 * (k / 4) + e) := by
        unfold lftK
        rw [show (4 * (k / 4) + e) / 4 = k / 4 by omega, show (4 * (k / 4) + e) % 4 = e by omega, ← hk]; omega
      refine ⟨4 * (k / 4) + e, ⟨by omega, ?_⟩, by simpa using hq⟩
      rw [← hx _ (by omega), ← hq]; exact g2
    · rintro ⟨a, ha, hk⟩
      simp at hk
      subst hk
      have := lft_lt (a % 4)
      have := ha.cell
      exact ⟨by unfold lftK; omega, by rw [hx a ha.cell]; exact ha.2⟩
  · intro a ha
    unfold wrdT
    simp only [List.map_cons, List.map_nil, (key a ha).2]
/-- In order they are told the same. -/
theorem sort_perm {A B : List (List UInt8)} (h : A.Perm B) : A.mergeSort (fun a b => decide (a ≤ b)) = B.mergeSort (fun a b => decide (a ≤ b)) := by
  refine List.Perm.eq_of_pairwise (le := fun a b => a ≤ b) (fun a b _ _ => List.le_antisymm) ?_ ?_ ((List.mergeSort_perm A _).trans (h.trans (List.mergeSort_perm B _).symm))
  · refine (List.pairwise_mergeSort ?_ ?_ A).imp (by intro a b h; simpa using h)
    · intro a b c h1 h2; simp at h1 h2 ⊢; exact List.le_trans h1 h2
    · intro a b; simp; exact List.le_total a b
  · refine (List.pairwise_mergeSort ?_ ?_ B).imp (by intro a b h; simpa using h)
    · intro a b c h1 h2; simp at h1 h2 ⊢; exact List.le_trans h1 h2
    · intro a b; simp; exact List.le_total a b
end Go.Proofs.YtkakeakdgidigaaDoor.FcM
