/-
  HeapSorts: what is popped of a list whose equals are the same: the list in order. Its first closure. Conditions: none.
-/
import Derived.Test.YtlhmlejkfgejiaaMergesW
namespace Go.Proofs.Ytlhmlejkfgejiaa
open Go.RowKit Go.Proofs.Ytlhmlejkfgejiaa.HeapM Go.Proofs.Ytlhmlejkfgejiaa.StabM Go.Proofs.Ytlhmlejkfgejiaa.Stab

theorem cmp0 : CmpAt 17 := by
  refine ⟨enters_of Try.func17 (by kernel_rfl) rfl, fun W x y hx hy => ?_⟩
  obtain ⟨x1, x2⟩ := hx
  obtain ⟨y1, y2⟩ := hy
  go_enter Try.func17, Try.ntmps17
  go_wp2
  go_ret
  exact ⟨rfl, by go_grown⟩

theorem pops_total {α : Type} [Inhabited α] {lt : α → α → Bool} (hO : Ord lt) (he : ∀ x y, lt x y = false → lt y x = false → x = y) {R : List α} :
    ∀ {L : List α}, R.Perm L → R.Pairwise (fun x y => lt y x = false) → PopSeq lt L R := by
  induction R with
  | nil =>
    intro L hp _
    obtain rfl : L = [] := hp.symm.eq_nil
    exact .nil
  | cons r R ih =>
    intro L hp hs
    have hl : 0 < L.length := by rw [← hp.length_eq]; simp
    obtain ⟨a, ha⟩ := first_ex hO L hl
    have hga : L.getD a default = L[a]'ha.1 := by simp [List.getD_eq_getElem?_getD, ha.1]
    have least : ∀ b (hb : b < L.length), lt L[b] (L[a]'ha.1) = false := by
      intro b hb
      have h1 := ha.2 b hb
      rw [hga, show L.getD b default = L[b] by simp [List.getD_eq_getElem?_getD, hb]] at h1
      rcases Nat.lt_trichotomy b a with h | h | h
      · exact hO.asym _ _ (h1.1 h)
      · subst h; exact hO.irrefl _
      · exact h1.2 h
    have e : L[a]'ha.1 = r := by
      have hr : r ∈ L := hp.mem_iff.1 (by simp)
      obtain ⟨b, hb, eb⟩ := List.getElem_of_mem hr
      have hin : L[a]'ha.1 ∈ r :: R := hp.mem_iff.2 (List.getElem_mem ha.1)
      rcases List.mem_cons.1 hin with h | h
      · exact h
      · have h1 := least b hb
        rw [eb] at h1
        exact he _ _ ((List.pairwise_cons.1 hs).1 _ h) h1
    have e2 : L.getD a default = r := hga.trans e
    rw [← e2]
    refine .cons a ha (ih ?_ (List.pairwise_cons.1 hs).2)
    have h1 := getElem_cons_erase_perm ha.1
    rw [e] at h1
    exact (List.perm_cons r).1 (hp.trans h1.symm)

/-- Where the heap and the list stand. -/
structure Duo (w0 wr : World) (p : Nat) (v : Value) (L : List Pr) (c : Int) (l : Value) (K : List Pr) : Prop where
  i1 : HO.Is ltO 8 p wr v L c
  m1 : Mine w0.heap.size w0 wr p v
  rl : OwnL wr w0.heap.size l K
section
variable {w0 wr w' : World} {p : Nat} {v l : Value} {L K : List Pr} {c : Int}
theorem Duo.below (h : Duo w0 wr p v L c l K) (o : Below wr.heap.size wr w') : Duo w0 w' p v L c l K := ⟨h.i1.below o, h.m1.quiet o, h.rl.below o⟩
theorem Duo.push {v3 : Value} {L' : List Pr} {c' : Int} (h : Duo w0 wr p v L c l K) (i3 : HO.Is ltO 8 p w' v3 L' c') (o3 : Out (HO.Foot p v) wr w') (f3 : ∀ b, v3.ownBlock = some b → v.ownBlock = some b ∨ wr.heap.size ≤ b) :
    Duo w0 w' p v3 L' c' l K := ⟨i3, h.m1.step o3 f3, h.rl.outf h.i1 o3⟩
theorem Duo.list {l' : Value} {K' : List Pr} (h : Duo w0 wr p v L c l K) (o : Out (fun b => l.ownBlock = some b) wr w') (r : OwnL w' w0.heap.size l' K') : Duo w0 w' p v L c l' K' :=
  ⟨h.i1.out o (foot_ne h.i1 h.rl), h.m1.other o (fun b _ hb => (h.rl.lt b hb).1), r⟩
theorem Duo.sorted {w7 : World} {e : Ending} (h : Duo w0 wr p v K c l K) (hp : PC K) (ho : Ordered w0.heap.size l K wr e w7) :
    e = .returned (.tuple #[]) ∧ ∃ X, Duo w0 w7 p v K c l X ∧ PopSeq ltO K X ∧ X.length = K.length := by
  obtain ⟨rfl, L', r, h1, h2, o⟩ := ho
  exact ⟨rfl, L', h.list o r, pops hp h1 h2, h1.length_eq⟩
end
def Sor1 (m1 : Nat) (w wr : World) (lv iv : Value) : Prop :=
  ∃ (k : Nat) (v : Value) (K : List Pr), iv = .int .i64 k ∧ k ≤ m1 ∧ Duo w wr w.heap.size v K k lv K ∧ Good 0 K ∧ K.length = k
def Sor2 (c : Int) (lv : Value) (X : List Pr) (w wr : World) (iv : Value) : Prop :=
  ∃ (k : Nat) (v : Value) (R : List Pr), iv = .int .i64 k ∧ k ≤ X.length ∧ Duo w wr w.heap.size v R c lv X ∧ PopSeq ltO R (X.drop k)

/-- Words in descending order. -/
theorem words_desc (ss : List (List UInt8)) : (ss.mergeSort fun x y => decide (x ≤ y)).reverse.Perm ss ∧ (ss.mergeSort fun x y => decide (x ≤ y)).reverse.Pairwise (fun x y => y ≤ x) := by
  refine ⟨(List.reverse_perm _).trans (List.mergeSort_perm _ _), List.pairwise_reverse.2 ?_⟩
  have h := List.pairwise_mergeSort (le := fun (x y : List UInt8) => decide (x ≤ y)) (fun a b c h1 h2 => by simp only [decide_eq_true_eq] at *; exact List.le_trans h1 h2)
    (fun a b => by simp only [Bool.or_eq_true, decide_eq_true_eq]; exact List.le_total a b) ss
  exact h.imp fun {a b} h => by simpa using h
theorem gt_false {x y : ByteArray} (h : y.toList ≤ x.toList) : gtS y x = false := by
  rw [gtS_eq, ltS, bytesLess_eq, decide_eq_false_iff_not]
  exact List.not_lt.2 h
end Go.Proofs.Ytlhmlejkfgejiaa
