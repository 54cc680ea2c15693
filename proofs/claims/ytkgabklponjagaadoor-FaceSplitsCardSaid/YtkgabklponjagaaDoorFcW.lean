/-
  What faces are told as: the turns of each but 0, in the least way of writing them round, in order: mathematics; no program stands here. Conditions: cells that may be.
-/
import Derived.Test.YtkgabklponjagaaDoorFcU
namespace Go.Proofs.YtkgabklponjagaaDoor.FcM
open Go.Proofs.YtkgabklponjagaaDoor.GrM

/-! The least way of writing letters round. -/
def minL (a b : List UInt8) : List UInt8 := if a < b ∨ a = b then a else b
theorem minL_le (a b : List UInt8) : minL a b ≤ a ∧ minL a b ≤ b ∧ (minL a b = a ∨ minL a b = b) := by
  unfold minL
  by_cases h : a < b ∨ a = b
  · rw [if_pos h]
    refine ⟨List.le_refl _, ?_, Or.inl rfl⟩
    rcases h with h | h
    · exact List.le_of_lt h
    · rw [h]; exact List.le_refl _
  · rw [if_neg h]
    refine ⟨?_, List.le_refl _, Or.inr rfl⟩
    rcases List.le_total a b with h1 | h1
    · exfalso
      by_cases h2 : b < a
      · exact absurd h2 (List.not_lt.2 h1)
      · have h3 : b ≤ a ∨ a < b := by
          by_cases h4 : a < b
          · exact Or.inr h4
          · exact Or.inl (List.not_lt.1 h4)
        rcases h3 with h3 | h3
        · exact h (Or.inr (List.le_antisymm h1 h3))
        · exact h (Or.inl h3)
    · exact h1
def stepC (s : List UInt8) (b : List UInt8) (i : Nat) : List UInt8 := minL b (rot s i)
def cnL (s : List UInt8) (m : Nat) : List UInt8 := (List.range m).foldl (stepC s) s
/-- The least of all ways. -/
def canL (s : List UInt8) : List UInt8 := cnL s s.length
theorem cn_more (s : List UInt8) (m : Nat) : cnL s (m + 1) = minL (cnL s m) (rot s m) := by unfold cnL; rw [List.range_succ, List.foldl_append]; rfl
theorem rot_zero {α : Type} (l : List α) : rot l 0 = l := by unfold rot; simp
theorem cn_is (s : List UInt8) : ∀ m, (∃ i, i ≤ m ∧ cnL s m = rot s i) ∧ cnL s m ≤ s ∧ ∀ i, i < m → cnL s m ≤ rot s i
  | 0 => ⟨⟨0, Nat.le_refl _, (rot_zero s).symm⟩, List.le_refl _, fun i hi => absurd hi (by omega)⟩
  | m + 1 => by
    obtain ⟨⟨j, hj, e⟩, h1, h2⟩ := cn_is s m
    obtain ⟨a, b, c⟩ := minL_le (cnL s m) (rot s m)
    rw [cn_more]
    refine ⟨?_, List.le_trans a h1, fun i hi => ?_⟩
    · rcases c with c | c
      · exact ⟨j, by omega, by rw [c, e]⟩
      · exact ⟨m, by omega, c⟩
    · by_cases h : i = m
      · subst h; exact b
      · exact List.le_trans a (h2 i (by omega))
theorem rot_all {α : Type} (l : List α) (i : Nat) (h : l.length ≤ i) : rot l i = l := by unfold rot; rw [List.drop_of_length_le h, List.take_of_length_le h]; rfl
theorem rot_rot {α : Type} [Inhabited α] (l : List α) {i j : Nat} (hi : i < l.length) (hj : j < l.length) : rot (rot l i) j = rot l ((i + j) % l.length) := by
  have hl : 0 < l.length := by omega
  apply List.ext_getElem?
  intro q
  by_cases hq : q < l.length
  · have e1 : ∀ (m : List α) (hm : q < m.length), m[q]? = some (m.getD q default) := fun m hm => by rw [List.getD_eq_getElem?_getD, List.getElem?_eq_getElem hm]; rfl
    rw [e1 _ (by rw [rot_len, rot_len]; exact hq), e1 _ (by rw [rot_len]; exact hq), rot_at (by rw [rot_len]; exact hj) (by rw [rot_len]; exact hq), rot_len, rot_at hi (Nat.mod_lt _ hl), rot_at (Nat.mod_lt _ hl) hq]
    congr 2
    rw [Nat.add_mod_mod, Nat.mod_add_mod, Nat.add_assoc]
  · rw [List.getElem?_eq_none (by rw [rot_len, rot_len]; omega), List.getElem?_eq_none (by rw [rot_len]; omega)]
/-- It doesn't hang on where one begins. -/
theorem can_rot (s : List UInt8) (j : Nat) : canL (rot s j) = canL s := by
  by_cases hj : j < s.length
  · obtain ⟨⟨a, ha, ea⟩, a1, a2⟩ := cn_is (rot s j) s.length
    obtain ⟨⟨b, hb, eb⟩, b1, b2⟩ := cn_is s s.length
    unfold canL
    rw [rot_len]
    have hl : 0 < s.length := by omega
    have le1 : ∀ i, cnL s s.length ≤ rot s i := fun i => by
      by_cases h : i < s.length
      · exact b2 i h
      · rw [rot_all s i (by omega)]; exact b1
    have le2 : ∀ i, cnL (rot s j) s.length ≤ rot (rot s j) i := fun i => by
      by_cases h : i < s.length
      · exact a2 i h
      · rw [rot_all _ i (by rw [rot_len]; omega)]; exact a1
    apply List.le_antisymm
    · rw [eb]
      by_cases h : b < s.length
      · have e : rot s b = rot (rot s j) ((b + (s.length - j)) % s.length) := by
          rw [rot_rot s hj (Nat.mod_lt _ hl), Nat.add_mod_mod, show j + (b + (s.length - j)) = b + s.length by omega, Nat.add_mod_right, Nat.mod_eq_of_lt h]
        rw [e]; exact le2 _
      · have e : rot s b = rot (rot s j) ((s.length - j) % s.length) := by
          rw [rot_all s b (by omega), rot_rot s hj (Nat.mod_lt _ hl), Nat.add_mod_mod, show j + (s.length - j) = s.length by omega, Nat.mod_self, rot_zero]
        rw [e]; exact le2 _
    · rw [ea]
      by_cases h : a < s.length
      · rw [rot_rot s hj h]; exact le1 _
      · rw [rot_all _ a (by rw [rot_len]; omega)]; exact le1 _
  · rw [rot_all s j (by omega)]
/-! The words of a face. -/
def wrdT (t : Nat → Int) (x : List Nat) : List Int := (x.map t).filter fun a => decide (a ≠ 0)
def bytL (z : List Int) : List UInt8 := z.map fun a => UInt8.ofNat (109 + a).toNat
def wordK (L : List Int) (x : List Nat) : List UInt8 := canL (bytL (wrdT (trnK L) x))
theorem wrd_append (t : Nat → Int) (x y : List Nat) : wrdT t (x ++ y) = wrdT t x ++ wrdT t y := by unfold wrdT; rw [List.map_append, List.filter_append]
theorem word_rot (L : List Int) (x : List Nat) (s : Nat) : wordK L (rot x s) = wordK L x := by
  unfold wordK
  have e : bytL (wrdT (trnK L) (rot x s)) = rot (bytL (wrdT (trnK L) x)) (bytL (wrdT (trnK L) (x.take s))).length := by
    have h1 : bytL (wrdT (trnK L) x) = bytL (wrdT (trnK L) (x.take s)) ++ bytL (wrdT (trnK L) (x.drop s)) := by
      conv => lhs; rw [← List.take_append_drop s x]
      rw [wrd_append]; unfold bytL; rw [List.map_append]
    rw [h1]
    unfold rot
    rw [List.drop_left, List.take_left, wrd_append]
    unfold bytL
    rw [List.map_append]
  rw [e, can_rot]
theorem wrd_flat {t t' : Nat → Int} {s : Nat → List Nat} : ∀ {x : List Nat}, (∀ a ∈ x, wrdT t' (s a) = wrdT t [a]) → wrdT t' (x.flatMap s) = wrdT t x
  | [], _ => rfl
  | a :: x, h => by
    rw [List.flatMap_cons, wrd_append, h a (by simp), wrd_flat (x := x) (fun c hc => h c (by simp [hc])), ← wrd_append]; rfl
theorem flat_flat (s : Nat → List Nat) : ∀ A : List (List Nat), (A.map (·.flatMap s)).flatten = A.flatten.flatMap s
  | [] => rfl
  | a :: A => by rw [List.map_cons, List.flatten_cons, flat_flat s A, List.flatten_cons, List.flatMap_append]
/-- Cells whose darts are those of others, each in place of some: their faces are told alike. -/
theorem told_same {L M : List Int} {n m : Nat} (hg : GoodG L n) (hm : GoodG M m) {h : Nat → Nat} {s : Nat → List Nat}
    (h1 : ∀ a, isK L n a → (s a).headD 0 = h a ∧ s a ≠ [] ∧ Lnk (behK M) (s a) (h (behK L a))) (h2 : ∀ a, isK L n a → (s a).Nodup)
    (h3 : ∀ a c, isK L n a → isK L n c → a ≠ c → ∀ x ∈ s a, ∀ y ∈ s c, x ≠ y) (h4 : ∀ k, isK M m k ↔ ∃ a, isK L n a ∧ k ∈ s a) (h5 : ∀ a, isK L n a → wrdT (trnK M) (s a) = wrdT (trnK L) [a]) :
    ((facesK L n).map (wordK L)).Perm ((facesK M m).map (wordK M)) := by
  have fL := faces_is hg
  have fM := faces_is hm
  have hd : ∀ x ∈ facesK L n, ∀ a ∈ x, isK L n a := fun x hx a ha => fL.met.2 a (List.mem_flatten.2 ⟨x, hx, ha⟩)
  have e : (facesK L n).map (wordK L) = ((facesK L n).map (·.flatMap s)).map (wordK M) := by
    rw [List.map_map]
    refine List.map_congr_left fun x hx => ?_
    show wordK L x = wordK M (x.flatMap s)
    unfold wordK
    rw [wrd_flat (fun a ha => h5 a (hd x hx a ha))]
  rw [e]
  refine cycs_perm (b := behK M) (fun l i _ => word_rot M l i) (fun l hl => ?_) fM.cyc ?_ fM.met.1 (fun k => ?_)
  · obtain ⟨x, hx, rfl⟩ := List.mem_map.1 hl
    exact cyc_flat (fun a ha => h1 a (hd x hx a ha)) (fL.cyc x hx)
  · rw [flat_flat, List.nodup_iff_pairwise_ne, List.pairwise_flatMap]
    refine ⟨fun a ha => h2 a (fL.met.2 a ha), fL.met.1.imp_of_mem fun {a c} ha hc hne => h3 a c (fL.met.2 a ha) (fL.met.2 c hc) hne⟩
  · rw [flat_flat, List.mem_flatMap]
    constructor
    · rintro ⟨a, ha, hk⟩
      have hkd := (h4 k).2 ⟨a, fL.met.2 a ha, hk⟩
      exact fM.all k hkd.1 hkd.2
    · intro hk
      obtain ⟨a, ha, hka⟩ := (h4 k).1 (fM.met.2 k hk)
      exact ⟨a, fL.all a ha.1 ha.2, hka⟩
end Go.Proofs.YtkgabklponjagaaDoor.FcM
