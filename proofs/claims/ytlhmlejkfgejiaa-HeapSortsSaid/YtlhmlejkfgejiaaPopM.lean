/-
  What is popped, one behind the other, of a list in the order of pushing: one list alone; of pairs: the list in order by key, then by what stands beside it. Conditions: none.
-/
import Derived.Test.YtlhmlejkfgejiaaHeapLeastW
import Derived.Test.YtlhmlejkfgejiaaStabM
namespace Go.Proofs.Ytlhmlejkfgejiaa
open Go.Proofs.Ytlhmlejkfgejiaa.HeapM Go.Proofs.Ytlhmlejkfgejiaa.StabM

inductive PopSeq {α : Type} [Inhabited α] (lt : α → α → Bool) : List α → List α → Prop
  | nil : PopSeq lt [] []
  | cons {L S : List α} (a : Nat) : First lt L a → PopSeq lt (L.eraseIdx a) S → PopSeq lt L (L.getD a default :: S)
section
variable {α : Type} [Inhabited α] {lt : α → α → Bool}
theorem PopSeq.uniq {L S S' : List α} (h : PopSeq lt L S) (k : PopSeq lt L S') : S = S' := by
  induction h generalizing S' with
  | nil =>
    cases k with
    | nil => rfl
    | cons a hf _ => exact absurd hf.1 (by simp)
  | cons a hf _ ih =>
    cases k with
    | nil => exact absurd hf.1 (by simp)
    | cons a' hf' hs' =>
      obtain rfl := First.uniq hf hf'
      rw [ih hs']
theorem PopSeq.len {L S : List α} (h : PopSeq lt L S) : S.length = L.length := by
  induction h with
  | nil => rfl
  | cons a hf _ ih =>
    have := hf.1
    rw [List.length_cons, ih, List.length_eraseIdx, if_pos this]
    omega
end

def lexlt (x y : Pr) : Prop := x.1 < y.1 ∨ (x.1 = y.1 ∧ x.2 < y.2)
def PC (L : List Pr) : Prop := L.Pairwise fun x y => x.1 = y.1 → x.2 < y.2
theorem g_get {L : List Pr} {i : Nat} (h : i < L.length) : g L i = L[i] := by
  unfold g; rw [List.getD_eq_getElem?_getD, List.getElem?_eq_getElem h]; rfl
theorem pc_iff (L : List Pr) : C L ↔ PC L := by
  unfold C PC
  rw [List.pairwise_iff_getElem]
  constructor
  · intro h i j hi hj hij
    have := h i j hij hj
    rwa [g_get hi, g_get hj] at this
  · intro h p q hpq hq
    rw [g_get (by omega), g_get hq]
    exact h p q (by omega) hq hpq
theorem lex_of {L : List Pr} (hc : C L) (hs : Seg L 0 L.length) : L.Pairwise lexlt := by
  rw [List.pairwise_iff_getElem]
  intro i j hi hj hij
  have h1 := hc i j hij hj
  have h2 := hs i j (Nat.zero_le _) hij hj
  rw [g_get hi, g_get hj] at h1 h2
  unfold lexlt
  by_cases e : L[i].1 = L[j].1
  · exact Or.inr ⟨e, h1 e⟩
  · exact Or.inl (by omega)
theorem pops {R : List Pr} : ∀ {L : List Pr}, PC L → R.Perm L → R.Pairwise lexlt → PopSeq ltO L R := by
  induction R with
  | nil =>
    intro L _ hp _
    obtain rfl : L = [] := hp.symm.eq_nil
    exact .nil
  | cons r R ih =>
    intro L hc hp hs
    have hl : 0 < L.length := by rw [← hp.length_eq]; simp
    obtain ⟨a, ha⟩ := first_ex ordO L hl
    have hga : L.getD a default = L[a]'ha.1 := g_get (L := L) ha.1
    have least : ∀ b (hb : b < L.length), b ≠ a → lexlt (L[a]'ha.1) L[b] := by
      intro b hb hne
      have h1 := ha.2 b hb
      rw [hga, show L.getD b default = L[b] from g_get (L := L) hb] at h1
      rcases Nat.lt_or_gt_of_ne hne with h | h
      · have := h1.1 h
        simp only [ltO, decide_eq_true_eq] at this
        exact Or.inl this
      · have h2 := h1.2 h
        simp only [ltO, decide_eq_false_iff_not] at h2
        have h3 := List.pairwise_iff_getElem.1 hc a b ha.1 hb h
        unfold lexlt
        by_cases e : (L[a]'ha.1).1 = L[b].1
        · exact Or.inr ⟨e, h3 e⟩
        · exact Or.inl (by omega)
    have he : L[a]'ha.1 = r := by
      have hr : r ∈ L := hp.mem_iff.1 (by simp)
      obtain ⟨b, hb, eb⟩ := List.getElem_of_mem hr
      have hin : L[a]'ha.1 ∈ r :: R := hp.mem_iff.2 (List.getElem_mem ha.1)
      rcases List.mem_cons.1 hin with h | h
      · exact h
      · by_cases e : b = a
        · subst e; exact eb
        · exfalso
          have h1 := least b hb e
          rw [eb] at h1
          have h2 := (List.pairwise_cons.1 hs).1 _ h
          unfold lexlt at h1 h2
          omega
    have e2 : L.getD a default = r := hga.trans he
    rw [← e2]
    refine .cons a ha (ih (List.Pairwise.sublist (List.eraseIdx_sublist _ _) hc) ?_ (List.pairwise_cons.1 hs).2)
    have h1 := getElem_cons_erase_perm ha.1
    rw [he] at h1
    exact (List.perm_cons r).1 (hp.trans h1.symm)
end Go.Proofs.Ytlhmlejkfgejiaa
