/-
  Heaps in plain mathematics: things with places, which comes ahead, rising and sinking, the list in the order of pushing. Conditions: the order is a strict weak one.
  A heap in memory: the block of its three fields, the row of its items, what lies outside both. Conditions: none.
  Small runs that the heaps' walks lay ahead: a function against nil, clear of one element. Conditions: none.
  Append to a row of the call's own, as one step of a region that draws its order; a row made shorter. Conditions: the bounds of a row.
-/
import Derived.Sort.Lot0
import Derived.Test.YtkakeakdgidigaaDoorBase
import Derived.OneCell
import Derived.Laws.OwnMore
import Derived.Lib.SliceRun
import Derived.Deep.RegionLaw
import Derived.Test.YtkakeakdgidigaaDoorAppend
namespace Go.Proofs.YtkakeakdgidigaaDoor.HeapM
variable {α : Type}

structure Ord (lt : α → α → Bool) : Prop where
  asym : ∀ x y, lt x y = true → lt y x = false
  ntrans : ∀ x y z, lt x y = false → lt y z = false → lt x z = false

/-- Does a come ahead of b? -/
def ahd (lt : α → α → Bool) (a b : α × Int) : Bool := if a.2 < b.2 then !lt b.1 a.1 else lt a.1 b.1
/-- Nothing says that b comes ahead of a. -/
def le (lt : α → α → Bool) (a b : α × Int) : Prop := ahd lt b a = false

theorem Ord.irrefl {lt : α → α → Bool} (h : Ord lt) (x : α) : lt x x = false := by
  cases e : lt x x
  · rfl
  · have := h.asym x x e
    rw [e] at this
    cases this

theorem le_iff {lt : α → α → Bool} (h : Ord lt) (a b : α × Int) : le lt a b ↔ (lt a.1 b.1 = true ∨ (lt b.1 a.1 = false ∧ a.2 ≤ b.2)) := by
  unfold le ahd
  by_cases h1 : b.2 < a.2
  · have h2 : ¬ a.2 ≤ b.2 := by omega
    simp [h1, h2]
  · have h2 : a.2 ≤ b.2 := by omega
    simp only [h1, if_false, h2, and_true]
    constructor
    · intro e; exact Or.inr e
    · intro e
      rcases e with e | e
      · exact h.asym _ _ e
      · exact e

theorem le_refl {lt : α → α → Bool} (h : Ord lt) (a : α × Int) : le lt a a := (le_iff h a a).2 (Or.inr ⟨h.irrefl _, Int.le_refl _⟩)

theorem le_trans {lt : α → α → Bool} (h : Ord lt) {a b c : α × Int} (h1 : le lt a b) (h2 : le lt b c) : le lt a c := by
  rw [le_iff h] at *
  have tr : ∀ x y z, lt x y = true → lt z y = false → lt x z = true := by
    intro x y z e1 e2
    cases e3 : lt x z
    · have := h.ntrans _ _ _ e3 e2
      rw [e1] at this; cases this
    · rfl
  have tr2 : ∀ x y z, lt y x = false → lt y z = true → lt x z = true := by
    intro x y z e1 e2
    cases e3 : lt x z
    · have := h.ntrans _ _ _ e1 e3
      rw [e2] at this; cases this
    · rfl
  rcases h1 with h1 | ⟨h1, p1⟩ <;> rcases h2 with h2 | ⟨h2, p2⟩
  · exact Or.inl (tr _ _ _ h1 (h.asym _ _ h2))
  · exact Or.inl (tr _ _ _ h1 h2)
  · exact Or.inl (tr2 _ _ _ h1 h2)
  · exact Or.inr ⟨h.ntrans _ _ _ h2 h1, by omega⟩

theorem le_of_ahd {lt : α → α → Bool} (h : Ord lt) {a b : α × Int} (e : ahd lt a b = true) : le lt a b := by
  rw [le_iff h]
  unfold ahd at e
  by_cases h1 : a.2 < b.2
  · simp only [h1, if_true, Bool.not_eq_true'] at e
    exact Or.inr ⟨e, by omega⟩
  · simp only [h1, if_false] at e
    exact Or.inl e

section
variable {β : Type} [Inhabited β]
def sw (l : List β) (i j : Nat) : List β := (l.set i (l.getD j default)).set j (l.getD i default)
theorem sw_length (l : List β) (i j : Nat) : (sw l i j).length = l.length := by simp [sw]
theorem sw_get (l : List β) {i j : Nat} (hi : i < l.length) (hj : j < l.length) (k : Nat) :
    (sw l i j).getD k default = if k = j then l.getD i default else if k = i then l.getD j default else l.getD k default := by
  unfold sw
  simp only [List.getD_eq_getElem?_getD, List.getElem?_set, List.length_set]
  by_cases h1 : j = k
  · subst h1; simp [hj]
  · by_cases h2 : i = k
    · subst h2; simp [h1, hi, Ne.symm h1]
    · simp [h1, h2, Ne.symm h1, Ne.symm h2]
theorem sw_perm (l : List β) {i j : Nat} (hi : i < l.length) (hj : j < l.length) : (sw l i j).Perm l := by
  have := Go.Sort.perm_set_set l i j hi hj
  unfold sw
  simpa [List.getD_eq_getElem?_getD, List.getElem?_eq_getElem hi, List.getElem?_eq_getElem hj] using this
end

variable [Inhabited α]
/-- The thing at i. -/
def at_ (l : List (α × Int)) (i : Nat) : α × Int := l.getD i default
def Hp (lt : α → α → Bool) (l : List (α × Int)) : Prop := ∀ j, 0 < j → j < l.length → le lt (at_ l ((j - 1) / 2)) (at_ l j)
def HpR (lt : α → α → Bool) (l : List (α × Int)) (i : Nat) : Prop :=
  (∀ j, 0 < j → j < l.length → j ≠ i → le lt (at_ l ((j - 1) / 2)) (at_ l j)) ∧ (∀ j, 0 < j → j < l.length → 0 < i → (j - 1) / 2 = i → le lt (at_ l ((i - 1) / 2)) (at_ l j))
def HpS (lt : α → α → Bool) (l : List (α × Int)) (i : Nat) : Prop :=
  (∀ j, 0 < j → j < l.length → (j - 1) / 2 ≠ i → le lt (at_ l ((j - 1) / 2)) (at_ l j)) ∧ (∀ j, 0 < j → j < l.length → 0 < i → (j - 1) / 2 = i → le lt (at_ l ((i - 1) / 2)) (at_ l j))

variable {lt : α → α → Bool}
theorem at_sw (l : List (α × Int)) {i j : Nat} (hi : i < l.length) (hj : j < l.length) (k : Nat) : at_ (sw l i j) k = if k = j then at_ l i else if k = i then at_ l j else at_ l k := sw_get l hi hj k

theorem rise_done0 {l : List (α × Int)} {i : Nat} (h : HpR lt l i) (hi : i = 0) : Hp lt l := fun j h0 hj => h.1 j h0 hj (by omega)
theorem rise_done {l : List (α × Int)} {i : Nat} (h : HpR lt l i) (ha : ahd lt (at_ l i) (at_ l ((i - 1) / 2)) = false) : Hp lt l := by
  intro j h0 hj
  by_cases e : j = i
  · subst e; exact ha
  · exact h.1 j h0 hj e
theorem rise_step (hO : Ord lt) {l : List (α × Int)} {i : Nat} (h : HpR lt l i) (h0 : 0 < i) (hi : i < l.length) (ha : ahd lt (at_ l i) (at_ l ((i - 1) / 2)) = true) : HpR lt (sw l i ((i - 1) / 2)) ((i - 1) / 2) := by
  have hp : (i - 1) / 2 < l.length := by omega
  have hle := le_of_ahd hO ha
  refine ⟨fun j j0 hj hne => ?_, fun j j0 hj p0 hjp => ?_⟩ <;> rw [sw_length] at hj
  · rw [at_sw l hi hp, at_sw l hi hp, if_neg hne]
    by_cases e1 : (j - 1) / 2 = (i - 1) / 2
    · rw [if_pos e1]
      by_cases e2 : j = i
      · rw [if_pos e2]; exact hle
      · rw [if_neg e2]
        have := h.1 j j0 hj e2
        rw [e1] at this
        exact le_trans hO hle this
    · rw [if_neg e1]
      by_cases e3 : (j - 1) / 2 = i
      · rw [if_pos e3, if_neg (by omega)]
        exact h.2 j j0 hj h0 e3
      · rw [if_neg e3]
        by_cases e2 : j = i
        · omega
        · rw [if_neg e2]
          exact h.1 j j0 hj e2
  · rw [at_sw l hi hp, at_sw l hi hp, if_neg (by omega), if_neg (by omega), if_neg (by omega)]
    have hpp := h.1 ((i - 1) / 2) p0 hp (by omega)
    by_cases e2 : j = i
    · rw [if_pos e2]; exact hpp
    · rw [if_neg e2]
      have := h.1 j j0 hj e2
      rw [hjp] at this
      exact le_trans hO hpp this

theorem sink_done {l : List (α × Int)} {i : Nat} (h : HpS lt l i) (hc : l.length ≤ 2 * i + 1) : Hp lt l := fun j h0 hj => h.1 j h0 hj (by omega)
theorem sink_done2 (hO : Ord lt) {l : List (α × Int)} {i c : Nat} (h : HpS lt l i) (hmin : ∀ d, (d = 2 * i + 1 ∨ d = 2 * i + 2) → d < l.length → le lt (at_ l c) (at_ l d)) (ha : ahd lt (at_ l c) (at_ l i) = false) : Hp lt l := by
  intro j h0 hj
  by_cases e : (j - 1) / 2 = i
  · rw [e]; exact le_trans hO ha (hmin j (by omega) hj)
  · exact h.1 j h0 hj e
theorem sink_step (hO : Ord lt) {l : List (α × Int)} {i c : Nat} (h : HpS lt l i) (hc : c = 2 * i + 1 ∨ c = 2 * i + 2) (hcl : c < l.length) (hmin : ∀ d, (d = 2 * i + 1 ∨ d = 2 * i + 2) → d < l.length → le lt (at_ l c) (at_ l d)) (ha : ahd lt (at_ l c) (at_ l i) = true) : HpS lt (sw l i c) c := by
  have hi : i < l.length := by omega
  have hle := le_of_ahd hO ha
  refine ⟨fun j j0 hj hne => ?_, fun j j0 hj p0 hjp => ?_⟩ <;> rw [sw_length] at hj
  · rw [at_sw l hi hcl, at_sw l hi hcl, if_neg hne]
    by_cases e1 : (j - 1) / 2 = i
    · rw [if_pos e1]
      by_cases e2 : j = c
      · rw [if_pos e2]; exact hle
      · rw [if_neg e2, if_neg (by omega)]
        exact hmin j (by omega) hj
    · rw [if_neg e1]
      by_cases e2 : j = c
      · omega
      · rw [if_neg e2]
        by_cases e3 : j = i
        · rw [if_pos e3]
          subst e3
          exact h.2 c (by omega) hcl (by omega) (by omega)
        · rw [if_neg e3]
          exact h.1 j j0 hj e1
  · rw [at_sw l hi hcl, at_sw l hi hcl, if_neg (by omega), if_pos (by omega), if_neg (by omega), if_neg (by omega)]
    have := h.1 j j0 hj (by omega)
    rw [hjp] at this
    exact this

theorem hp_top (hO : Ord lt) {l : List (α × Int)} (h : Hp lt l) : ∀ j, j < l.length → le lt (at_ l 0) (at_ l j) := by
  intro j
  induction j using Nat.strongRecOn with
  | _ j ih =>
    intro hj
    by_cases h0 : j = 0
    · subst h0; exact le_refl hO _
    · exact le_trans hO (ih ((j - 1) / 2) (by omega) (by omega)) (h j (by omega) hj)

theorem at_append (l : List (α × Int)) (x : α × Int) (k : Nat) : at_ (l ++ [x]) k = if k < l.length then at_ l k else if k = l.length then x else default := by
  unfold at_
  simp only [List.getD_eq_getElem?_getD, List.getElem?_append]
  by_cases h : k < l.length
  · simp [h]
  · by_cases h2 : k = l.length
    · subst h2; simp
    · have : k - l.length ≠ 0 := by omega
      simp [h, h2, this]

theorem push_rise {l : List (α × Int)} (h : Hp lt l) (x : α × Int) : HpR lt (l ++ [x]) l.length := by
  refine ⟨fun j j0 hj hne => ?_, fun j j0 hj p0 hjp => ?_⟩ <;> simp at hj
  · rw [at_append, at_append, if_pos (by omega), if_pos (by omega)]
    exact h j j0 (by omega)
  · omega

/-- The last thing in the top's place, one fewer. -/
theorem drop_sink {l : List (α × Int)} (h : Hp lt l) : HpS lt ((l.set 0 (at_ l (l.length - 1))).take (l.length - 1)) 0 := by
  have key : ∀ k, 0 < k → k < l.length - 1 → at_ ((l.set 0 (at_ l (l.length - 1))).take (l.length - 1)) k = at_ l k := by
    intro k k0 hk
    show List.getD _ _ _ = List.getD _ _ _
    simp only [List.getD_eq_getElem?_getD]
    rw [List.getElem?_take, if_pos hk, List.getElem?_set, if_neg (by omega)]
  refine ⟨fun j j0 hj hne => ?_, fun j j0 hj p0 hjp => absurd p0 (by omega)⟩
  simp at hj
  rw [key _ (by omega) (by omega), key _ (by omega) (by omega)]
  exact h j j0 (by omega)

theorem getElem_cons_erase_perm {β : Type} {l : List β} {i : Nat} (h : i < l.length) : (l[i] :: l.eraseIdx i).Perm l := by
  induction l generalizing i with
  | nil => simp at h
  | cons x t ih =>
    cases i with
    | zero => exact List.Perm.refl _
    | succ i =>
      simp only [List.getElem_cons_succ, List.eraseIdx_cons_succ]
      exact (List.Perm.swap _ _ _).trans ((ih (by simpa using h)).cons x)
theorem map_erase {β γ : Type} (f : β → γ) (l : List β) (i : Nat) : (l.eraseIdx i).map f = (l.map f).eraseIdx i := by
  induction l generalizing i with
  | nil => rfl
  | cons x t ih =>
    cases i with
    | zero => rfl
    | succ i => simp [ih]

/-- The first of the least. -/
def First (lt : α → α → Bool) (L : List α) (a : Nat) : Prop :=
  a < L.length ∧ ∀ b, b < L.length → (b < a → lt (L.getD a default) (L.getD b default) = true) ∧ (a < b → lt (L.getD b default) (L.getD a default) = false)
theorem First.uniq {L : List α} {a b : Nat} (h : First lt L a) (k : First lt L b) : a = b := by
  rcases Nat.lt_trichotomy a b with e | e | e
  · have h1 := (h.2 b k.1).2 e
    have h2 := (k.2 a h.1).1 e
    rw [h1] at h2; cases h2
  · exact e
  · have h1 := (h.2 b k.1).1 e
    have h2 := (k.2 a h.1).2 e
    rw [h1] at h2; cases h2

/-- l holds the things of L, which lie in the order of pushing; c were pushed. -/
structure Hold (l : List (α × Int)) (L : List α) (c : Int) : Prop where
  ex : ∃ S : List (α × Int), S.Perm l ∧ S.map (·.1) = L ∧ S.Pairwise (fun a b => a.2 < b.2) ∧ ∀ x ∈ S, x.2 < c
  room : (L.length : Int) ≤ c
structure St (lt : α → α → Bool) (l : List (α × Int)) (L : List α) (c : Int) : Prop where
  hold : Hold l L c
  hp : Hp lt l
omit [Inhabited α] in
theorem Hold.len {l : List (α × Int)} {L : List α} {c : Int} (h : Hold l L c) : l.length = L.length := by
  obtain ⟨S, h1, h2, _⟩ := h.ex
  rw [← h1.length_eq, ← h2, List.length_map]
omit [Inhabited α] in
theorem Hold.perm {l l' : List (α × Int)} {L : List α} {c : Int} (h : Hold l L c) (hp : l'.Perm l) : Hold l' L c := by
  obtain ⟨S, h1, h2⟩ := h.ex
  exact ⟨⟨S, h1.trans hp.symm, h2⟩, h.room⟩
theorem St.nil : St lt [] [] 0 := ⟨⟨⟨[], List.Perm.refl _, rfl, List.Pairwise.nil, fun _ h => by cases h⟩, by simp⟩, fun j _ hj => absurd hj (by simp)⟩
omit [Inhabited α] in
theorem Hold.push {l : List (α × Int)} {L : List α} {c : Int} (h : Hold l L c) (x : α) : Hold (l ++ [(x, c)]) (L ++ [x]) (c + 1) := by
  obtain ⟨S, h1, h2, h3, h4⟩ := h.ex
  refine ⟨⟨S ++ [(x, c)], h1.append_right _, by simp [h2], ?_, ?_⟩, by have := h.room; simp; omega⟩
  · rw [List.pairwise_append]
    exact ⟨h3, List.pairwise_singleton _ _, fun a ha b hb => by simp at hb; subst hb; exact h4 a ha⟩
  · intro y hy
    rcases List.mem_append.1 hy with hy | hy
    · have := h4 y hy; omega
    · simp at hy; subst hy; show c < c + 1; omega
theorem St.top (hO : Ord lt) {l : List (α × Int)} {L : List α} {c : Int} (h : St lt l L c) (hne : 0 < l.length) : ∃ a, First lt L a ∧ L.getD a default = (at_ l 0).1 ∧ Hold l.tail (L.eraseIdx a) c := by
  obtain ⟨S, h1, h2, h3, h4⟩ := h.hold.ex
  obtain ⟨x0, t, rfl⟩ : ∃ x t, l = x :: t := by cases l with | nil => simp at hne | cons x t => exact ⟨x, t, rfl⟩
  have hx : x0 ∈ S := h1.mem_iff.2 (by simp)
  obtain ⟨a, ha, hSa⟩ := List.getElem_of_mem hx
  have hmin : ∀ y ∈ S, le lt x0 y := by
    intro y hy
    have hy' := h1.mem_iff.1 hy
    obtain ⟨j, hj, e⟩ := List.getElem_of_mem hy'
    have := hp_top hO h.hp j hj
    have e1 : at_ (x0 :: t) 0 = x0 := rfl
    have e2 : at_ (x0 :: t) j = y := by unfold at_; rw [List.getD_eq_getElem?_getD, List.getElem?_eq_getElem hj, e]; rfl
    rw [e1, e2] at this
    exact this
  have hg : ∀ b (hb : b < S.length), L.getD b default = (S[b]).1 := by
    intro b hb
    rw [← h2, List.getD_eq_getElem?_getD, List.getElem?_map, List.getElem?_eq_getElem hb]; rfl
  have hL : L.length = S.length := by rw [← h2, List.length_map]
  refine ⟨a, ⟨by omega, fun b hb => ⟨fun hlt => ?_, fun hlt => ?_⟩⟩, ?_, ?_⟩
  · rw [hg a ha, hg b (by omega), hSa]
    have hle := hmin _ (List.getElem_mem (show b < S.length by omega))
    have hp := List.pairwise_iff_getElem.1 h3 b a (by omega) ha hlt
    rw [hSa] at hp
    rcases (le_iff hO _ _).1 hle with e | e
    · exact e
    · omega
  · rw [hg a ha, hg b (by omega), hSa]
    have hle := hmin _ (List.getElem_mem (show b < S.length by omega))
    rcases (le_iff hO _ _).1 hle with e | e
    · exact hO.asym _ _ e
    · exact e.1
  · rw [hg a ha, hSa]; rfl
  · refine ⟨⟨S.eraseIdx a, ?_, ?_, ?_, ?_⟩, ?_⟩
    · have e1 := getElem_cons_erase_perm ha
      rw [hSa] at e1
      exact (List.perm_cons x0).1 (e1.trans h1)
    · rw [map_erase, h2]
    · exact h3.sublist (List.eraseIdx_sublist _ _)
    · exact fun y hy => h4 y ((List.eraseIdx_sublist _ _).subset hy)
    · have := h.hold.room
      have := (List.eraseIdx_sublist L a).length_le
      omega
theorem drop_perm (l : List (α × Int)) (hne : 0 < l.length) : ((l.set 0 (at_ l (l.length - 1))).take (l.length - 1)).Perm l.tail := by
  obtain ⟨x0, t, rfl⟩ : ∃ x t, l = x :: t := by cases l with | nil => simp at hne | cons x t => exact ⟨x, t, rfl⟩
  rcases List.eq_nil_or_concat t with rfl | ⟨t0, z, rfl⟩
  · simp
  · have e1 : at_ (x0 :: t0.concat z) ((x0 :: t0.concat z).length - 1) = z := by
      unfold at_
      rw [List.getD_eq_getElem?_getD, List.concat_eq_append]
      simp
    rw [e1]
    have e2 : ((x0 :: t0.concat z).set 0 z).take ((x0 :: t0.concat z).length - 1) = z :: t0 := by
      simp
    rw [e2, List.concat_eq_append]
    simp only [List.tail_cons]
    exact (List.perm_append_comm (l₁ := t0) (l₂ := [z])).symm
end Go.Proofs.YtkakeakdgidigaaDoor.HeapM

namespace Go.Proofs.YtkakeakdgidigaaDoor
open Go.RowKit

/-- What lies outside the blocks of S reads as it did. -/
structure Out (S : Nat → Prop) (w w' : World) : Prop where
  os : w'.os = w.os
  tape : w'.tape = w.tape
  output : w'.output = w.output
  size : w.heap.size ≤ w'.heap.size
  block : ∀ k, k < w.heap.size → ¬ S k → w'.heap[k]? = w.heap[k]?

theorem Out.refl (S : Nat → Prop) (w : World) : Out S w w := ⟨rfl, rfl, rfl, Nat.le_refl _, fun _ _ _ => rfl⟩
theorem Out.trans {S S' : Nat → Prop} {a b c : World} (h : Out S a b) (k : Out S' b c) (hS : ∀ i, i < a.heap.size → S' i → S i) : Out S a c :=
  ⟨k.os.trans h.os, k.tape.trans h.tape, k.output.trans h.output, Nat.le_trans h.size k.size, fun i hi hn =>
    (k.block i (Nat.lt_of_lt_of_le hi h.size) (fun e => hn (hS i hi e))).trans (h.block i hi hn)⟩
theorem Out.mono {S S' : Nat → Prop} {a b : World} (h : Out S a b) (hS : ∀ i, i < a.heap.size → S i → S' i) : Out S' a b :=
  ⟨h.os, h.tape, h.output, h.size, fun i hi hn => h.block i hi (fun e => hn (hS i hi e))⟩
theorem Out.ofBelow {S : Nat → Prop} {w w' : World} (h : RowKit.Below w.heap.size w w') : Out S w w' := ⟨h.os, h.tape, h.output, h.size, fun k hk _ => h.block k hk⟩
theorem Out.below {S : Nat → Prop} {w w' : World} {B : Nat} (h : Out S w w') (hB : B ≤ w.heap.size) (hS : ∀ i, i < w.heap.size → S i → B ≤ i) : RowKit.Below B w w' :=
  ⟨h.os, h.tape, h.output, h.size, fun k hk => h.block k (by omega) (fun e => by have := hS k (by omega) e; omega)⟩
theorem Out.drew {S : Nat → Prop} {a w : World} (h : Out S a w) : Out S a w.drew := ⟨h.os, h.tape, h.output, h.size, h.block⟩
theorem Out.alloc {S : Nat → Prop} {a w : World} (h : Out S a w) (o : Obj) : Out S a (w.alloc o) :=
  h.trans (S' := fun _ => False) ⟨rfl, rfl, rfl, by simp, fun k hk _ => Below.heap_alloc _ _ _ hk⟩ (fun _ _ e => e.elim)
theorem Out.setCell {S : Nat → Prop} {a w : World} (h : Out S a w) {p : Addr} (hp : p.block < a.heap.size → S p.block) (u : Value) : Out S a (w.setCell p u) :=
  h.trans (S' := fun i => i = p.block) ⟨rfl, rfl, rfl, by simp [World.setCell], fun k _ hn => Below.heap_setCell _ _ _ _ hn⟩ (fun i hi e => by subst e; exact hp hi)
theorem Out.setIn {g : Nat} {a w : World} (h : Out (fun b => b = g) a w) (o : Nat) (u : Value) : Out (fun b => b = g) a (w.setCell ⟨g, o, none⟩ u) := h.setCell (fun _ => rfl) u
theorem Out.grown {S : Nat → Prop} {a w w' : World} {row : Option Nat} (h : Out S a w) (hg : w.grownBy w' row) (hr : ∀ k, k < a.heap.size → row = some k → S k) : Out S a w' :=
  h.trans (S' := fun i => row = some i) ⟨hg.os, hg.tape, hg.output, hg.size, fun k hk hn => hg.block k hk (fun e => hn e.symm)⟩ (fun i hi e => hr i hi e)

theorem Out.cell {S : Nat → Prop} {a w : World} (h : Out S a w) {b : Nat} (o : Nat) (hb : b < a.heap.size) (hn : ¬ S b) : w.cell? ⟨b, o, none⟩ = a.cell? ⟨b, o, none⟩ := World.cell?_of_block (w := a) (h.block b hb hn)
theorem Out.frz {S : Nat → Prop} {a w : World} (h : Out S a w) {b : Nat} (o : Nat) (hb : b < a.heap.size) (hn : ¬ S b) : w.frozen? ⟨b, o, none⟩ = a.frozen? ⟨b, o, none⟩ := World.frozen?_of_block (w := a) (h.block b hb hn)

theorem ownsRow_block {w w' : World} {base : Nat} {e : TypeId} {size n : Nat} {v : Value} {xs : List Value} (h : w.ownsRow base e size v n xs) (hb : ∀ b, v.ownBlock = some b → w'.heap[b]? = w.heap[b]?) : w'.ownsRow base e size v n xs := by
  obtain ⟨h1, h2⟩ := h
  refine ⟨h1, ?_⟩
  rcases h2 with h2 | ⟨g, cap, cur, hv, hg, hh, r⟩
  · exact Or.inl h2
  · subst hv
    exact Or.inr ⟨g, cap, cur, rfl, hg, by rw [hb g rfl]; exact hh, r⟩
theorem ownsRow_out {w w' : World} {base : Nat} {e : TypeId} {size n : Nat} {v : Value} {xs : List Value} {S : Nat → Prop} (h : w.ownsRow base e size v n xs) (o : Out S w w') (hv : ∀ b, v.ownBlock = some b → ¬ S b) : w'.ownsRow base e size v n xs :=
  ownsRow_block h fun b hb => o.block b (h.lt b hb).2 (hv b hb)

/-- A heap's fields and its row. -/
structure HeapMem (w : World) (T E : TypeId) (k p : Nat) (f v : Value) (n : Nat) (xs : List Value) (c : Int) : Prop where
  blk : w.heap[p]? = some (.cells #[f, v, .int .i64 c] T (0, 0))
  row : w.ownsRow 0 E k v n xs
  apart : v.ownBlock ≠ some p

variable {w w' : World} {T E : TypeId} {k p n : Nat} {f v : Value} {xs : List Value} {c : Int} {S : Nat → Prop}
theorem HeapMem.lt (h : HeapMem w T E k p f v n xs c) : p < w.heap.size := (Array.getElem?_eq_some_iff.1 h.blk).1
theorem HeapMem.out (h : HeapMem w T E k p f v n xs c) (o : Out S w w') (hp : ¬ S p) (hv : ∀ b, v.ownBlock = some b → ¬ S b) : HeapMem w' T E k p f v n xs c :=
  ⟨by rw [o.block p h.lt hp]; exact h.blk, ownsRow_out h.row o hv, h.apart⟩
theorem HeapMem.below (h : HeapMem w T E k p f v n xs c) (o : RowKit.Below w.heap.size w w') : HeapMem w' T E k p f v n xs c :=
  h.out (S := fun _ => False) (Out.ofBelow o) (fun e => e) (fun _ _ e => e)
theorem HeapMem.drew (h : HeapMem w T E k p f v n xs c) : HeapMem w.drew T E k p f v n xs c := h.below ((Below.refl _ _).drew)
theorem HeapMem.c0 (h : HeapMem w T E k p f v n xs c) : w.cell? ⟨p, 0, none⟩ = some f := by simp [World.cell?, h.blk]
theorem HeapMem.c1 (h : HeapMem w T E k p f v n xs c) : w.cell? ⟨p, 1, none⟩ = some v := by simp [World.cell?, h.blk]
theorem HeapMem.c2 (h : HeapMem w T E k p f v n xs c) : w.cell? ⟨p, 2, none⟩ = some (.int .i64 c) := by simp [World.cell?, h.blk]
theorem HeapMem.fr (h : HeapMem w T E k p f v n xs c) (j : Nat) : w.frozen? ⟨p, j, none⟩ = false := by
  simp only [World.frozen?, h.blk]
  simp
theorem HeapMem.len (h : HeapMem w T E k p f v n xs c) : xs.length = n * k := h.row.1
theorem HeapMem.form (h : HeapMem w T E k p f v n xs c) (h0 : 0 < n) : ∃ g cap, v = .slice (some ⟨g, 0, none⟩) n cap ∧ n ≤ cap ∧ cap ≤ maxLen ∧ g ≠ p ∧ g < w.heap.size := by
  rcases h.row.2 with ⟨_, h2⟩ | ⟨g, cap, cur, hv, hg, hh, hn, hc, r⟩
  · omega
  · refine ⟨g, cap, hv, hn, hc, fun e => ?_, (Array.getElem?_eq_some_iff.1 hh).1⟩
    apply h.apart
    rw [hv, e]; rfl
theorem HeapMem.form0 (h : HeapMem w T E k p f v n xs c) : ∃ ao cap, v = .slice ao n cap ∧ n ≤ cap ∧ cap ≤ maxLen := by
  rcases h.row.2 with ⟨h1, h2⟩ | ⟨g, cap, cur, hv, hg, hh, hn, hc, r⟩
  · subst h2; exact ⟨_, _, h1, Nat.le_refl _, by simp [maxLen]⟩
  · exact ⟨_, _, hv, hn, hc⟩
theorem HeapMem.cell {g cap : Nat} (h : HeapMem w T E k p f (.slice (some ⟨g, 0, none⟩) n cap) n xs c) (j : Nat) (hj : j < n * k) : w.cell? ⟨g, j, none⟩ = some (xs.getD j default) := by
  rw [h.row.cellAt j hj, List.getD_eq_getElem?_getD, List.getElem?_eq_getElem (by rw [h.len]; exact hj)]
  rfl
theorem HeapMem.frz {g cap : Nat} (h : HeapMem w T E k p f (.slice (some ⟨g, 0, none⟩) n cap) n xs c) (j : Nat) : w.frozen? ⟨g, j, none⟩ = false := h.row.frozenAt j
/-- A store into the row. -/
theorem HeapMem.stored {g cap : Nat} (h : HeapMem w T E k p f (.slice (some ⟨g, 0, none⟩) n cap) n xs c) (j : Nat) (u : Value) : HeapMem (w.setCell ⟨g, j, none⟩ u) T E k p f (.slice (some ⟨g, 0, none⟩) n cap) n (xs.set j u) c := by
  refine ⟨?_, (h.row.stored j u).1, h.apart⟩
  rw [Below.heap_setCell _ _ _ _ (fun e => h.apart (by subst e; rfl))]
  exact h.blk
theorem heap_setCell_at {w : World} {p : Nat} {cur : Array Value} {T : TypeId} {fz : Nat × Nat} (h : w.heap[p]? = some (.cells cur T fz)) (j : Nat) (u : Value) : (w.setCell ⟨p, j, none⟩ u).heap[p]? = some (.cells (cur.setIfInBounds j u) T fz) := by
  have hlt := (Array.getElem?_eq_some_iff.1 h).1
  have h' : w.heap[p] = .cells cur T fz := by simpa [Array.getElem?_eq_getElem hlt] using h
  show (w.heap.modify p _)[p]? = _
  rw [Array.getElem?_eq_getElem (by simpa using hlt), Array.getElem_modify_self, h']
  rfl
/-- Another number of those that were pushed. -/
theorem HeapMem.count (h : HeapMem w T E k p f v n xs c) (d : Int) : HeapMem (w.setCell ⟨p, 2, none⟩ (.int .i64 d)) T E k p f v n xs d := by
  refine ⟨?_, ownsRow_setCell_other h.row h.apart _, h.apart⟩
  rw [heap_setCell_at h.blk]; rfl
/-- Another row. -/
theorem HeapMem.rowed {v' : Value} {n' : Nat} {xs' : List Value} (hb : w.heap[p]? = some (.cells #[f, v, .int .i64 c] T (0, 0))) (hr : w.ownsRow 0 E k v' n' xs') (ha : v'.ownBlock ≠ some p) : HeapMem (w.setCell ⟨p, 1, none⟩ v') T E k p f v' n' xs' c := by
  refine ⟨?_, ownsRow_setCell_other hr ha _, ha⟩
  rw [heap_setCell_at hb]; rfl

section flat
variable {β : Type} (enc : β → List Value)
theorem flat_len (hk : ∀ x, (enc x).length = k) (l : List β) : (l.flatMap enc).length = l.length * k := by
  induction l with
  | nil => simp
  | cons x t ih => simp [ih, hk, Nat.add_mul]; omega
theorem flat_get [Inhabited β] (hk : ∀ x, (enc x).length = k) (l : List β) (i r : Nat) (hi : i < l.length) (hr : r < k) : (l.flatMap enc).getD (i * k + r) default = (enc (l.getD i default)).getD r default := by
  induction l generalizing i with
  | nil => simp at hi
  | cons x t ih =>
    rw [List.flatMap_cons]
    cases i with
    | zero =>
      simp only [Nat.zero_mul, Nat.zero_add, List.getD_eq_getElem?_getD]
      rw [List.getElem?_append_left (by rw [hk]; exact hr)]
      rfl
    | succ i =>
      have e : (i + 1) * k + r = (enc x).length + (i * k + r) := by rw [hk, Nat.add_mul]; omega
      rw [e, List.getD_eq_getElem?_getD, List.getElem?_append_right (by omega), Nat.add_sub_cancel_left, ← List.getD_eq_getElem?_getD, ih i (by simpa using hi)]
      rfl
/-- A run of stores. -/
def runSet (xs : List Value) (s : Nat) : List Value → List Value
  | [] => xs
  | u :: us => runSet (xs.set s u) (s + 1) us
theorem runSet_eq (us : List Value) : ∀ (xs : List Value) (s : Nat), s + us.length ≤ xs.length → runSet xs s us = xs.take s ++ us ++ xs.drop (s + us.length) := by
  induction us with
  | nil => intro xs s _; simp [runSet]
  | cons u us ih =>
    intro xs s h
    simp at h
    rw [runSet, ih _ _ (by simp; omega)]
    apply List.ext_getElem?
    intro q
    simp only [List.getElem?_append, List.getElem?_take, List.getElem?_drop, List.length_take, List.length_set, List.length_append, List.length_cons, List.getElem?_set, List.getElem?_cons]
    by_cases h1 : q < s
    · simp [h1, show q < s + 1 by omega, show q < xs.length by omega, show ¬ s = q by omega, show q < min (s+1) xs.length by omega, show q < min s xs.length by omega, show q < min (s + 1) xs.length + us.length by omega, show q < min s xs.length + (us.length + 1) by omega]
    · by_cases h2 : q = s
      · subst h2
        simp [show q < q + 1 by omega, show q < min (q+1) xs.length by omega, show ¬ q < min q xs.length by omega, show q < min (q + 1) xs.length + us.length by omega, show q < min q xs.length + (us.length + 1) by omega, show q < xs.length by omega, show q - min q xs.length = 0 by omega]
      · by_cases h3 : q < s + 1 + us.length
        · simp [show ¬ q < min (s+1) xs.length by omega, show ¬ q < min s xs.length by omega, show q < min (s + 1) xs.length + us.length by omega, show q < min s xs.length + (us.length + 1) by omega, show q - min s xs.length ≠ 0 by omega, show q - min s xs.length - 1 = q - min (s + 1) xs.length by omega]
        · simp [show ¬ q < min (s + 1) xs.length + us.length by omega, show ¬ q < min s xs.length + (us.length + 1) by omega]
          rw [if_neg (by omega)]
          congr 1; omega
theorem flat_set (hk : ∀ x, (enc x).length = k) (l : List β) (i : Nat) (hi : i < l.length) (y : β) : runSet (l.flatMap enc) (i * k) (enc y) = (l.set i y).flatMap enc := by
  have hlen := flat_len enc hk l
  have hmul : i * k + k ≤ l.length * k := by
    have := Nat.mul_le_mul_right k (show i + 1 ≤ l.length by omega)
    rw [Nat.add_mul] at this; omega
  rw [runSet_eq _ _ _ (by rw [hk, hlen]; exact hmul), hk]
  clear hlen hmul
  induction l generalizing i with
  | nil => simp at hi
  | cons x t ih =>
    cases i with
    | zero =>
      have e : (enc x).length = k := hk x
      simp [← e]
    | succ i =>
      have e1 : (i + 1) * k = (enc x).length + i * k := by rw [hk, Nat.add_mul]; omega
      have e2 : (enc x).length + i * k + k = (enc x).length + (i * k + k) := by omega
      simp only [List.set_cons_succ, List.flatMap_cons]
      rw [e1, e2, List.take_length_add_append, List.drop_length_add_append, ← ih i (by simpa using hi)]
      simp
theorem flat_take (hk : ∀ x, (enc x).length = k) (l : List β) (m : Nat) : (l.flatMap enc).take (m * k) = (l.take m).flatMap enc := by
  induction l generalizing m with
  | nil => simp
  | cons x t ih =>
    cases m with
    | zero => simp
    | succ m =>
      have e : (m + 1) * k = (enc x).length + m * k := by rw [hk, Nat.add_mul]; omega
      rw [List.flatMap_cons, e, List.take_length_add_append, ih, List.take_succ_cons, List.flatMap_cons]
end flat
end Go.Proofs.YtkakeakdgidigaaDoor

namespace Go.Proofs.YtkakeakdgidigaaDoor
open Go.RowKit
theorem run_equalIn_func_nil {P : Program} (w : World) (d : Nat) (t : TypeId) (a b : Array TypeId) (v : Bool) (fn : Fn) (ps lb : Array Value) (h : P.underlying t = some (.func a b v)) :
    (Op.equalIn (d + 1) t (.func fn ps lb) .nilFunc).run P w = .ok false w := by
  simp [Op.equalIn, run_underlying h]
theorem run_neq_func_nil {P : Program} (w : World) (t : TypeId) (a b : Array TypeId) (v : Bool) (fn : Fn) (ps lb : Array Value) (h : P.underlying t = some (.func a b v)) :
    (binOp .neq t (.func fn ps lb) .nilFunc).run P w = .ok (.bool true) w := by
  simp only [binOp]
  simp [Op.equal, Op.maxDepth, run_equalIn_func_nil w 9999 t a b v fn ps lb h]
/-- 'clear(s)', s of one element. -/
theorem run_clear_one {P : Program} (w : World) (t e ty : TypeId) (z : Value) (zs : List Value) (ht : P.underlying t = some (.slice e)) (hv : ∀ w, (zeroValue e).run P w = .ok z w) (hz : (Builtin.zeroCells z.cells 1).toList = zs) (h1 : ∀ v ∈ zs, v.oneCell' = true) (b o c : Nat)
    (hc : ∀ j, j < zs.length → (w.cell? ⟨b, o + j, none⟩).isSome = true) (hf : ∀ j, j < zs.length → w.frozen? ⟨b, o + j, none⟩ = false) :
    (Builtin.clear_ #[t] ty #[.slice (some ⟨b, o, none⟩) 1 c]).run P w = .ok (.tuple #[]) (w.setCells b o zs) := by
  have hst := run_storeCells_cells (P := P) b o zs 0 w (by simpa using hc) (by simpa using hf) h1
  simp only [Nat.add_zero] at hst
  simp [Builtin.clear_, run_underlying ht, hv, hz, hst]
end Go.Proofs.YtkakeakdgidigaaDoor

namespace Go
theorem ownsRow_form {w : World} {base : Nat} {e : TypeId} {size n : Nat} {v : Value} {xs : List Value} (h : w.ownsRow base e size v n xs) (h0 : 0 < n) : ∃ g cap, v = .slice (some ⟨g, 0, none⟩) n cap ∧ base ≤ g ∧ g < w.heap.size ∧ n ≤ cap := by
  rcases h.2 with ⟨_, h2⟩ | ⟨g, cap, cur, hv, hg, hh, hn, hc, r⟩
  · omega
  · exact ⟨g, cap, hv, hg, (Array.getElem?_eq_some_iff.1 hh).1, hn⟩
theorem ownsRow_shorter {w : World} {base : Nat} {e : TypeId} {size n m g cap : Nat} {xs : List Value} (h : w.ownsRow base e size (.slice (some ⟨g, 0, none⟩) n cap) n xs) (hm : m ≤ n) : w.ownsRow base e size (.slice (some ⟨g, 0, none⟩) m cap) m (xs.take (m * size)) := by
  obtain ⟨h1, h2⟩ := h
  have hms : m * size ≤ n * size := Nat.mul_le_mul_right _ hm
  refine ⟨by rw [List.length_take, h1]; omega, ?_⟩
  rcases h2 with ⟨h2, _⟩ | ⟨g', cap', cur, hv, hg, hh, hn, hc, hz, ht⟩
  · simp at h2
  · simp only [Value.slice.injEq, Option.some.injEq, Addr.mk.injEq, and_true, true_and] at hv
    obtain ⟨rfl, rfl⟩ := hv
    exact Or.inr ⟨g, cap, cur, rfl, hg, hh, by omega, hc, hz, by rw [← ht, List.take_take]; congr 1; omega⟩
end Go
namespace Go.Proofs.YtkakeakdgidigaaDoor
open Go.RowKit
/-- Behind the append: the heap's block as it was, the longer row. -/
structure Longer (W w1 : World) (T E k p : Nat) (f v : Value) (n : Nat) (xs : List Value) (c : Int) (g cap : Nat) : Prop where
  blk : w1.heap[p]? = some (.cells #[f, v, .int .i64 c] T (0, 0))
  row : w1.ownsRow 0 E k (.slice (some ⟨g, 0, none⟩) n cap) n xs
  grow : W.grownBy w1 v.ownBlock
  apart : g ≠ p
  fresh : v.ownBlock = some g ∨ W.heap.size ≤ g
variable {W w1 : World} {T E k p : Nat} {f v : Value} {n : Nat} {xs : List Value} {c : Int} {g cap : Nat}
theorem Longer.k1 (h : Longer W w1 T E k p f v n xs c g cap) : w1.cell? ⟨p, 1, none⟩ = some v := by simp [World.cell?, h.blk]
theorem Longer.k2 (h : Longer W w1 T E k p f v n xs c g cap) : w1.cell? ⟨p, 2, none⟩ = some (.int .i64 c) := by simp [World.cell?, h.blk]
theorem Longer.e1 (h : Longer W w1 T E k p f v n xs c g cap) : w1.frozen? ⟨p, 1, none⟩ = false := by simp only [World.frozen?, h.blk]; simp
theorem Longer.e2 (h : Longer W w1 T E k p f v n xs c g cap) : w1.frozen? ⟨p, 2, none⟩ = false := by simp only [World.frozen?, h.blk]; simp
/-- Behind the two stores: the heap with its longer row, one more pushed. -/
theorem Longer.mem (h : Longer W w1 T E k p f v n xs c g cap) (d : Int) : HeapMem ((w1.setCell ⟨p, 1, none⟩ (.slice (some ⟨g, 0, none⟩) n cap)).setCell ⟨p, 2, none⟩ (.int .i64 d)) T E k p f (.slice (some ⟨g, 0, none⟩) n cap) n xs d :=
  (HeapMem.rowed h.blk h.row (fun e => h.apart (by simpa [Value.ownBlock] using e))).count d

theorem step_push {P : Program} {ops : Array Oper} {o : Oper} {a : Act} {w W : World} {K : Act → World → Prop} {Q : Exit → Act → World → Prop} {F : Prop}
    (hg : o.guard = none) (s x : Operand) (t : TypeId) (hop : o.op = Op.call { callee := Callee.builtin Builtin.append, args := #[s, x], argTypes := #[t, t] })
    (T E : TypeId) (i : TypeInfo) (z : Value) (k bytes : Nat) (h1 : P.underlying t = some (.slice E)) (h2 : P.info? E = some i) (h3 : i.zero = some z) (h4 : i.size = k) (h5 : i.bytes = bytes) (h6 : z.cells.size = k) (h7 : 0 < k)
    (p n : Nat) (f v : Value) (xs : List Value) (c : Int) (h : HeapMem w T E k p f v n xs c) (hb : RowKit.Below w.heap.size w W) (hs : a.eval s = v)
    (ad : Addr) (cp : Nat) (news : List Value) (hx : a.eval x = .slice (some ad) 1 cp) (hn : news.length = k) (hc : ∀ j u, news[j]? = some u → W.cell? (ad.add j) = some u) (h1c : ∀ u ∈ news, u.oneCell' = true)
    (b1 : n + 1 ≤ maxLen) (b2 : (n + 1) * bytes ≤ 140737488355328)
    (hK : ∀ g cap w1, Longer W w1 T E k p f v (n + 1) (xs ++ news) c g cap → K (a.put o.dst (.slice (some ⟨g, 0, none⟩) (n + 1) cap)) w1) :
    if Region.wanted o (yielded ops a.tmps) = true then Oper.wp P o a W K Q else F := by
  have H := h.below hb
  refine step_append_fresh hg s x t hop 0 E i z k bytes h1 h2 h3 h4 h5 h6 h7 v n xs hs H.row ad 1 cp news hx (by rw [hn, Nat.one_mul]) hc h1c b1 b2 (Nat.zero_le _) fun v' w1 hown hgrow hfr => ?_
  obtain ⟨g, cap, rfl, _, hgs, _⟩ := ownsRow_form hown (by omega)
  have hf := hfr g rfl
  refine hK g cap w1 ⟨(hgrow.block p H.lt (fun e => h.apart e.symm)).trans H.blk, hown, hgrow, fun e => ?_, hf⟩
  subst e
  rcases hf with hf | hf
  · exact h.apart hf
  · have := H.lt; omega
end Go.Proofs.YtkakeakdgidigaaDoor
