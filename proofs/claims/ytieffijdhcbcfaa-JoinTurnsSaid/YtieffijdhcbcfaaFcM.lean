/-
  Faces of cells: mathematics; no program stands here. A dart is a number: four times its cell, and its direction. Conditions: none.
-/
import Derived.Test.YtieffijdhcbcfaaNzRm
namespace Go.Proofs.Ytieffijdhcbcfaa.FcM
open Go.Proofs.Ytieffijdhcbcfaa.GrM

/-- Where a dart leads. -/
def nxK (L : List Int) (k : Nat) : Int := nxG L (k / 4) (k % 4)
/-- Is it a dart? -/
def isK (L : List Int) (n k : Nat) : Prop := k < 4 * n ∧ nxK L k ≠ -1
/-- Which way is taken, of the four that are tried. -/
def wayI (L : List Int) (v d : Nat) : Nat := if nxG L v ((d + 1) % 4) ≠ -1 then 0 else if nxG L v (d % 4) ≠ -1 then 1 else if nxG L v ((d + 3) % 4) ≠ -1 then 2 else 3
/-- The directions in the order in which they are tried. -/
def ordI (i : Nat) : Nat := if i = 0 then 1 else if i = 1 then 0 else if i = 2 then 3 else 2
def headK (L : List Int) (k : Nat) : Nat := (nxK L k).toNat
def wayK (L : List Int) (k : Nat) : Nat := wayI L (headK L k) (k % 4)
def dirK (L : List Int) (k : Nat) : Nat := (k % 4 + ordI (wayK L k)) % 4
/-- The dart behind. -/
def behK (L : List Int) (k : Nat) : Nat := 4 * headK L k + dirK L k
/-- How one turns. -/
def trnK (L : List Int) (k : Nat) : Int := 1 - (wayK L k : Int)
theorem way_le (L : List Int) (v d : Nat) : wayI L v d ≤ 3 := by unfold wayI; split <;> (try split) <;> (try split) <;> omega
theorem trn_range (L : List Int) (k : Nat) : -2 ≤ trnK L k ∧ trnK L k ≤ 1 := by
  have := way_le L (headK L k) (k % 4)
  unfold trnK wayK; omega
theorem dir_lt (L : List Int) (k : Nat) : dirK L k < 4 := Nat.mod_lt _ (by decide)
theorem beh_cell (L : List Int) (k : Nat) : behK L k / 4 = headK L k := by have := dir_lt L k; unfold behK; omega
theorem beh_dir (L : List Int) (k : Nat) : behK L k % 4 = dirK L k := by have := dir_lt L k; unfold behK; omega
/-- The same edge from its other end. -/
def revK (L : List Int) (k : Nat) : Nat := 4 * headK L k + opp (k % 4)
theorem isK.good {L : List Int} {n k : Nat} (h : isK L n k) (hg : GoodG L n) : nxK L k = (headK L k : Nat) ∧ headK L k < n ∧ nxG L (headK L k) (opp (k % 4)) = ((k / 4 : Nat) : Int) := by
  have hs := hg.side (v := k / 4) (d := k % 4) (by have := h.1; omega) (by omega)
  have h2 := h.2
  unfold nxK at h2
  unfold headK nxK
  rcases hs with hs | hs
  · exact absurd hs.1 h2
  · exact ⟨by omega, by omega, hs.2.2.2.1⟩
theorem rev_dart {L : List Int} {n k : Nat} (h : isK L n k) (hg : GoodG L n) : isK L n (revK L k) := by
  obtain ⟨h1, h2, h3⟩ := h.good hg
  have := opp_lt (k % 4)
  refine ⟨by unfold revK; omega, ?_⟩
  unfold nxK revK
  rw [show (4 * headK L k + opp (k % 4)) / 4 = headK L k by omega, show (4 * headK L k + opp (k % 4)) % 4 = opp (k % 4) by omega, h3]
  omega
theorem rev_rev {L : List Int} {n k : Nat} (h : isK L n k) (hg : GoodG L n) : revK L (revK L k) = k := by
  obtain ⟨h1, h2, h3⟩ := h.good hg
  have := opp_lt (k % 4)
  have e1 : (revK L k) / 4 = headK L k := by unfold revK; omega
  have e2 : (revK L k) % 4 = opp (k % 4) := by unfold revK; omega
  unfold revK
  rw [show 4 * headK L k + opp (k % 4) = revK L k from rfl, e2, opp_opp (by omega)]
  unfold headK nxK
  rw [e1, e2]
  show 4 * (nxG L (headK L k) (opp (k % 4))).toNat + k % 4 = k
  rw [h3]; omega
/-- There is a way, by the side that was taken. -/
theorem way_is {L : List Int} {v d : Nat} (h : nxG L v (opp d) ≠ -1) : nxG L v ((d + ordI (wayI L v d)) % 4) ≠ -1 ∧ (∀ i, i < wayI L v d → nxG L v ((d + ordI i) % 4) = -1) := by
  unfold opp at h
  unfold wayI
  by_cases h0 : nxG L v ((d + 1) % 4) = -1
  · rw [if_neg (fun e => e h0)]
    by_cases h1 : nxG L v (d % 4) = -1
    · rw [if_neg (fun e => e h1)]
      by_cases h2 : nxG L v ((d + 3) % 4) = -1
      · rw [if_neg (fun e => e h2)]
        refine ⟨h, fun i hi => ?_⟩
        have : i = 0 ∨ i = 1 ∨ i = 2 := by omega
        rcases this with rfl | rfl | rfl
        · exact h0
        · exact h1
        · exact h2
      · rw [if_pos h2]
        refine ⟨h2, fun i hi => ?_⟩
        have : i = 0 ∨ i = 1 := by omega
        rcases this with rfl | rfl
        · exact h0
        · exact h1
    · rw [if_pos h1]
      refine ⟨h1, fun i hi => ?_⟩
      have : i = 0 := by omega
      subst this; exact h0
  · rw [if_pos h0]
    exact ⟨h0, fun i hi => absurd hi (by omega)⟩
theorem beh_dart {L : List Int} {n k : Nat} (h : isK L n k) (hg : GoodG L n) : isK L n (behK L k) := by
  obtain ⟨h1, h2, h3⟩ := h.good hg
  have hw := (way_is (L := L) (v := headK L k) (d := k % 4) (by rw [h3]; omega)).1
  have := dir_lt L k
  refine ⟨by unfold behK; omega, ?_⟩
  unfold nxK
  rw [beh_cell, beh_dir]
  exact hw
theorem side_inj {L : List Int} {v d e : Nat} (hd : d < 4) (he : e < 4) (h1 : nxG L v (opp d) ≠ -1) (h2 : nxG L v (opp e) ≠ -1) (h : (d + ordI (wayI L v d)) % 4 = (e + ordI (wayI L v e)) % 4) : d = e := by
  have hb : ∀ b0 b1 b2 b3 : Bool, ∀ d e : Fin 4,
      (fun s : Nat => if s = 0 then b0 else if s = 1 then b1 else if s = 2 then b2 else b3) ((d.1 + 2) % 4) = true →
      (fun s : Nat => if s = 0 then b0 else if s = 1 then b1 else if s = 2 then b2 else b3) ((e.1 + 2) % 4) = true →
      (d.1 + ordI (if (fun s : Nat => if s = 0 then b0 else if s = 1 then b1 else if s = 2 then b2 else b3) ((d.1 + 1) % 4) = true then 0 else if (fun s : Nat => if s = 0 then b0 else if s = 1 then b1 else if s = 2 then b2 else b3) (d.1 % 4) = true then 1 else if (fun s : Nat => if s = 0 then b0 else if s = 1 then b1 else if s = 2 then b2 else b3) ((d.1 + 3) % 4) = true then 2 else 3)) % 4 =
      (e.1 + ordI (if (fun s : Nat => if s = 0 then b0 else if s = 1 then b1 else if s = 2 then b2 else b3) ((e.1 + 1) % 4) = true then 0 else if (fun s : Nat => if s = 0 then b0 else if s = 1 then b1 else if s = 2 then b2 else b3) (e.1 % 4) = true then 1 else if (fun s : Nat => if s = 0 then b0 else if s = 1 then b1 else if s = 2 then b2 else b3) ((e.1 + 3) % 4) = true then 2 else 3)) % 4 → d = e := by
    decide
  have key : ∀ s, s < 4 → ((fun s : Nat => if s = 0 then decide (nxG L v 0 ≠ -1) else if s = 1 then decide (nxG L v 1 ≠ -1) else if s = 2 then decide (nxG L v 2 ≠ -1) else decide (nxG L v 3 ≠ -1)) s = true) = (nxG L v s ≠ -1) := by
    intro s hs
    have : s = 0 ∨ s = 1 ∨ s = 2 ∨ s = 3 := by omega
    rcases this with rfl | rfl | rfl | rfl <;> simp
  have := hb (decide (nxG L v 0 ≠ -1)) (decide (nxG L v 1 ≠ -1)) (decide (nxG L v 2 ≠ -1)) (decide (nxG L v 3 ≠ -1)) ⟨d, hd⟩ ⟨e, he⟩
    (by rw [key _ (by omega)]; exact h1) (by rw [key _ (by omega)]; exact h2)
    (by
      simp only [key _ (Nat.mod_lt _ (by decide : 0 < 4))]
      exact h)
  exact congrArg Fin.val this
theorem beh_inj {L : List Int} {n k j : Nat} (hg : GoodG L n) (hk : isK L n k) (hj : isK L n j) (h : behK L k = behK L j) : k = j := by
  obtain ⟨a1, a2, a3⟩ := hk.good hg
  obtain ⟨b1, b2, b3⟩ := hj.good hg
  have hc : headK L k = headK L j := by rw [← beh_cell, ← beh_cell, h]
  have hd : dirK L k = dirK L j := by rw [← beh_dir, ← beh_dir, h]
  unfold dirK wayK at hd
  rw [← hc] at hd b3
  have he := side_inj (L := L) (v := headK L k) (d := k % 4) (e := j % 4) (by omega) (by omega) (by rw [a3]; omega) (by rw [b3]; omega) hd
  rw [← he, a3] at b3
  omega

/-! The faces, one by one. -/
def orb (L : List Int) : Nat → List Nat → Nat → List Nat
  | 0, _, _ => []
  | f + 1, met, k => if k ∈ met then [] else k :: orb L f (met ++ [k]) (behK L k)
def facS (L : List Int) (n : Nat) : Nat → List (List Nat)
  | 0 => []
  | j + 1 => if nxK L j = -1 ∨ j ∈ (facS L n j).flatten then facS L n j else facS L n j ++ [orb L (4 * n - (facS L n j).flatten.length) (facS L n j).flatten j]
def facesK (L : List Int) (n : Nat) : List (List Nat) := facS L n (4 * n)
theorem pigeonK : ∀ {n : Nat} {P : List Nat}, P.Nodup → (∀ v ∈ P, v < n) → P.length ≤ n
  | 0, [], _, _ => Nat.le_refl _
  | 0, v :: _, _, h => absurd (h v (by simp)) (by omega)
  | n + 1, P, hn, h => by
    have h1 := pigeonK (n := n) (P := P.filter (· ≠ n)) (hn.filter _) (fun v hv => by
      obtain ⟨a, b⟩ := List.mem_filter.1 hv
      have := h v a
      have : v ≠ n := by simpa using b
      omega)
    have h2 : P.length ≤ (P.filter (· ≠ n)).length + 1 := by
      clear h1 h
      induction P with
      | nil => simp
      | cons x P ih =>
        obtain ⟨hx, hP⟩ := List.nodup_cons.1 hn
        by_cases e : x = n
        · subst e
          have hf : P.filter (· ≠ x) = P := List.filter_eq_self.2 (fun a ha => by
            have : a ≠ x := fun e => hx (e ▸ ha)
            simpa using this)
          rw [List.filter_cons_of_neg (by simp), hf]
          simp
        · have := ih hP
          rw [List.filter_cons_of_pos (by simpa using e)]
          simpa using this
    omega
/-- Darts that were met: each once. -/
def Met (L : List Int) (n : Nat) (met : List Nat) : Prop := met.Nodup ∧ ∀ k ∈ met, isK L n k
theorem Met.len {L : List Int} {n : Nat} {met : List Nat} (h : Met L n met) : met.length ≤ 4 * n := by
  exact pigeonK h.1 (fun k hk => (h.2 k hk).1)
theorem Met.more {L : List Int} {n k : Nat} {met : List Nat} (h : Met L n met) (hk : isK L n k) (hn : k ∉ met) : Met L n (met ++ [k]) := by
  refine ⟨?_, fun j hj => ?_⟩
  · rw [List.nodup_append]
    refine ⟨h.1, by simp, fun a ha b hb => ?_⟩
    have : b = k := by simpa using hb
    subst this
    intro e; subst e; exact hn ha
  · rcases List.mem_append.1 hj with hj | hj
    · exact h.2 j hj
    · have : j = k := by simpa using hj
      subst this; exact hk
theorem orb_in {L : List Int} {f : Nat} {met : List Nat} {k : Nat} (h : k ∈ met) : orb L f met k = [] := by
  cases f with
  | zero => rfl
  | succ f => simp [orb, h]
/-- One dart more: whatever is left of a face. -/
theorem orb_step {L : List Int} {n : Nat} {met : List Nat} {k : Nat} (h : Met L n met) (hk : isK L n k) (hn : k ∉ met) :
    orb L (4 * n - met.length) met k = k :: orb L (4 * n - (met ++ [k]).length) (met ++ [k]) (behK L k) ∧ met.length < 4 * n := by
  have h2 := (h.more hk hn).len
  rw [List.length_append] at h2 ⊢
  simp only [List.length_singleton] at h2 ⊢
  have e : 4 * n - met.length = (4 * n - (met.length + 1)) + 1 := by omega
  rw [e, orb, if_neg hn]
  exact ⟨rfl, by omega⟩
/-- A row of darts, each behind the one ahead of it. -/
def Chn (b : Nat → Nat) (l : List Nat) : Prop := ∀ i, i + 1 < l.length → b (l.getD i 0) = l.getD (i + 1) 0
/-- .. and the first behind the last. -/
def Cyc (b : Nat → Nat) (l : List Nat) : Prop := l ≠ [] ∧ ∀ i, i < l.length → b (l.getD i 0) = l.getD ((i + 1) % l.length) 0
theorem orb_is {L : List Int} {n : Nat} (hg : GoodG L n) : ∀ (f : Nat) (met : List Nat) (k : Nat), f = 4 * n - met.length → Met L n met → isK L n k →
    Met L n (met ++ orb L f met k) ∧ Chn (behK L) (orb L f met k) ∧ (k ∉ met → (orb L f met k).head? = some k ∧ ∃ z, (orb L f met k).getLast? = some z ∧ behK L z ∈ met ++ orb L f met k) ∧ (k ∈ met → orb L f met k = [])
  | 0, met, k, hf, hm, hk => by
    have hl := hm.len
    have hin : k ∈ met := by
      refine Decidable.byContradiction fun hn => ?_
      have := (hm.more hk hn).len
      rw [List.length_append] at this
      simp only [List.length_singleton] at this
      omega
    simp only [orb, List.append_nil]
    refine ⟨hm, ?_, fun h => absurd hin h, fun _ => trivial⟩
    intro i hi; simp at hi
  | f + 1, met, k, hf, hm, hk => by
    by_cases hin : k ∈ met
    · simp only [orb, if_pos hin, List.append_nil]
      refine ⟨hm, ?_, fun h => absurd hin h, fun _ => trivial⟩
      intro i hi; simp at hi
    · have hm2 := hm.more hk hin
      have hf2 : f = 4 * n - (met ++ [k]).length := by rw [List.length_append]; simp only [List.length_singleton]; omega
      obtain ⟨i1, i2, i3, i4⟩ := orb_is hg f (met ++ [k]) (behK L k) hf2 hm2 (beh_dart hk hg)
      rw [show orb L (f + 1) met k = k :: orb L f (met ++ [k]) (behK L k) by simp only [orb, if_neg hin]]
      have e : met ++ k :: orb L f (met ++ [k]) (behK L k) = met ++ [k] ++ orb L f (met ++ [k]) (behK L k) := by simp
      rw [e]
      refine ⟨i1, ?_, fun _ => ⟨rfl, ?_⟩, fun h => absurd h hin⟩
      · intro i hi
        cases i with
        | zero =>
          by_cases hb : behK L k ∈ met ++ [k]
          · rw [i4 hb] at hi; simp at hi
          · have h0 := (i3 hb).1
            cases ho : orb L f (met ++ [k]) (behK L k) with
            | nil => rw [ho] at h0; cases h0
            | cons a r => rw [ho] at h0; simp at h0; simp [h0]
        | succ i =>
          have := i2 i (by simpa using hi)
          simpa using this
      · by_cases hb : behK L k ∈ met ++ [k]
        · refine ⟨k, by rw [i4 hb]; rfl, List.mem_append_left _ hb⟩
        · obtain ⟨h0, z, hz, hzm⟩ := i3 hb
          refine ⟨z, ?_, hzm⟩
          rw [List.getLast?_cons, hz]; rfl
/-- What is closed is left by none. -/
def Shut (L : List Int) (met : List Nat) : Prop := ∀ k ∈ met, ∃ j ∈ met, behK L j = k
theorem getD_mem {l : List Nat} {i : Nat} (h : i < l.length) : l.getD i 0 ∈ l := by
  rw [List.getD_eq_getElem?_getD, List.getElem?_eq_getElem h]; exact List.getElem_mem h
theorem getD_inj {l : List Nat} (hn : l.Nodup) {i j : Nat} (hi : i < l.length) (hj : j < l.length) (h : l.getD i 0 = l.getD j 0) : i = j := by
  rw [List.getD_eq_getElem?_getD, List.getElem?_eq_getElem hi, List.getD_eq_getElem?_getD, List.getElem?_eq_getElem hj] at h
  exact (List.getElem_inj hn).1 (by simpa using h)
theorem Cyc.shut {b : Nat → Nat} {l : List Nat} (h : Cyc b l) {k : Nat} (hk : k ∈ l) : ∃ j ∈ l, b j = k := by
  obtain ⟨i, hi, rfl⟩ := List.mem_iff_getElem.1 hk
  have hl : 0 < l.length := by omega
  have h1 := h.2 ((i + (l.length - 1)) % l.length) (Nat.mod_lt _ hl)
  refine ⟨l.getD ((i + (l.length - 1)) % l.length) 0, getD_mem (Nat.mod_lt _ hl), ?_⟩
  rw [h1]
  have e : ((i + (l.length - 1)) % l.length + 1) % l.length = i := by
    rw [Nat.mod_add_mod, show i + (l.length - 1) + 1 = i + l.length by omega, Nat.add_mod_right, Nat.mod_eq_of_lt hi]
  rw [e, List.getD_eq_getElem?_getD, List.getElem?_eq_getElem hi]; rfl
/-- A face, gathered ahead of closed ones, is closed. -/
theorem orb_cyc {L : List Int} {n k : Nat} {met : List Nat} (hg : GoodG L n) (hm : Met L n met) (hs : Shut L met) (hk : isK L n k) (hn : k ∉ met) :
    Met L n (met ++ orb L (4 * n - met.length) met k) ∧ Cyc (behK L) (orb L (4 * n - met.length) met k) ∧ (orb L (4 * n - met.length) met k).head? = some k := by
  obtain ⟨i1, i2, i3, _⟩ := orb_is hg _ met k rfl hm hk
  obtain ⟨h0, z, hz, hzm⟩ := i3 hn
  generalize orb L (4 * n - met.length) met k = l at *
  refine ⟨i1, ⟨?_, fun i hi => ?_⟩, h0⟩
  · intro e; subst e; cases h0
  · have hnd := (List.nodup_append.1 i1.1)
    have hd : ∀ j, j < l.length → isK L n (l.getD j 0) := fun j hj => i1.2 _ (List.mem_append_right _ (getD_mem hj))
    by_cases hlt : i + 1 < l.length
    · rw [Nat.mod_eq_of_lt hlt]; exact i2 i hlt
    · have hie : i + 1 = l.length := by omega
      rw [hie, Nat.mod_self]
      have hzi : l.getD i 0 = z := by
        rw [List.getLast?_eq_getElem?] at hz
        rw [List.getD_eq_getElem?_getD, show i = l.length - 1 by omega, hz]; rfl
      rw [hzi]
      have hzk : isK L n z := by rw [← hzi]; exact hd i hi
      rcases List.mem_append.1 hzm with hzm | hzm
      · obtain ⟨j, hj, hje⟩ := hs _ hzm
        have : j = z := beh_inj hg (i1.2 _ (List.mem_append_left _ hj)) hzk hje
        subst this
        exact absurd rfl (hnd.2.2 j hj j (hzi ▸ getD_mem hi))
      · obtain ⟨j, hj, hje⟩ := List.mem_iff_getElem.1 hzm
        have hje' : l.getD j 0 = behK L z := by rw [List.getD_eq_getElem?_getD, List.getElem?_eq_getElem hj]; exact hje
        cases j with
        | zero => exact hje'.symm
        | succ j =>
          have := i2 j hj
          rw [hje'] at this
          have e := beh_inj hg (hd j (by omega)) hzk this
          rw [← hzi] at e
          have := getD_inj hnd.2.1 (by omega) hi e
          omega
/-- What is true of the faces so far. -/
structure FacI (L : List Int) (n j : Nat) (F : List (List Nat)) : Prop where
  met : Met L n F.flatten
  cyc : ∀ f ∈ F, Cyc (behK L) f
  least : ∀ f ∈ F, ∀ k ∈ f, f.getD 0 0 ≤ k
  all : ∀ k, k < j → nxK L k ≠ -1 → k ∈ F.flatten
theorem facs_shut {L : List Int} {F : List (List Nat)} (h : ∀ f ∈ F, Cyc (behK L) f) : Shut L F.flatten := by
  intro k hk
  obtain ⟨f, hf, hkf⟩ := List.mem_flatten.1 hk
  obtain ⟨j, hj, he⟩ := (h f hf).shut hkf
  exact ⟨j, List.mem_flatten.2 ⟨f, hf, hj⟩, he⟩
theorem facs_is {L : List Int} {n : Nat} (hg : GoodG L n) : ∀ j, j ≤ 4 * n → FacI L n j (facS L n j)
  | 0, _ => ⟨⟨by simp [facS], by simp [facS]⟩, by simp [facS], by simp [facS], fun k hk => absurd hk (by omega)⟩
  | j + 1, hj => by
    have h := facs_is hg j (by omega)
    rw [facS]
    by_cases hc : nxK L j = -1 ∨ j ∈ (facS L n j).flatten
    · rw [if_pos hc]
      refine ⟨h.met, h.cyc, h.least, fun k hk hx => ?_⟩
      by_cases e : k = j
      · subst e
        rcases hc with hc | hc
        · exact absurd hc hx
        · exact hc
      · exact h.all k (by omega) hx
    · rw [if_neg hc]
      have h1 : nxK L j ≠ -1 := fun e => hc (Or.inl e)
      have h2 : j ∉ (facS L n j).flatten := fun e => hc (Or.inr e)
      obtain ⟨m, c, hd⟩ := orb_cyc hg h.met (facs_shut h.cyc) ⟨by omega, h1⟩ h2
      generalize orb L (4 * n - (facS L n j).flatten.length) (facS L n j).flatten j = f at *
      have h0 : f.getD 0 0 = j := by cases f with | nil => cases hd | cons a r => simp at hd; simp [hd]
      refine ⟨by simpa using m, fun g hgm => ?_, fun g hgm k hk => ?_, fun k hk hx => ?_⟩
      · rcases List.mem_append.1 hgm with hgm | hgm
        · exact h.cyc g hgm
        · have : g = f := by simpa using hgm
          subst this; exact c
      · rcases List.mem_append.1 hgm with hgm | hgm
        · exact h.least g hgm k hk
        · have : g = f := by simpa using hgm
          subst this
          rw [h0]
          have hkd := m.2 k (List.mem_append_right _ hk)
          refine Nat.le_of_not_lt fun hlt => ?_
          exact absurd rfl ((List.nodup_append.1 m.1).2.2 k (h.all k hlt hkd.2) k hk)
      · simp only [List.flatten_append, List.flatten_cons, List.flatten_nil, List.append_nil, List.mem_append]
        by_cases e : k = j
        · subst e
          exact Or.inr (h0 ▸ getD_mem (Nat.pos_of_ne_zero (fun e => by have := List.eq_nil_of_length_eq_zero e; subst this; cases hd)))
        · exact Or.inl (h.all k (by omega) hx)
theorem faces_is {L : List Int} {n : Nat} (hg : GoodG L n) : FacI L n (4 * n) (facesK L n) := facs_is hg _ (Nat.le_refl _)
end Go.Proofs.Ytieffijdhcbcfaa.FcM
