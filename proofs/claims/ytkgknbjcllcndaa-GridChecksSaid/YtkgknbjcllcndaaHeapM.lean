/-
  Heaps in plain mathematics: things with places, which comes ahead, rising and sinking, the list in the order of pushing. Conditions: the order is a strict weak one.
-/
import Derived.Sort.Lot0
namespace Go.Proofs.Ytkgknbjcllcndaa.HeapM
variable {α : Type}

structure Ord (lt : α → α → Bool) : Prop where
  asym : ∀ x y, lt x y = true → lt y x = false
  ntrans : ∀ x y z, lt x y = false → lt y z = false → lt x z = false

/-- Does a come ahead of b? -/
def ahd (lt : α → α → Bool) (a b : α × Int) : Bool := if a.2 < b.2 then !lt b.1 a.1 else lt a.1 b.1
/-- Nothing says that b comes ahead of a. -/
def le (lt : α → α → Bool) (a b : α × Int) : Prop := ahd lt b a = false

theorem Ord.irrefl {lt : α → α → Bool} (h : Ord lt) (x : α) : lt x x = false := by
  cases e : lt x x
  · rfl
  · have := h.asym x x e
    rw [e] at this
    cases this

theorem le_iff {lt : α → α → Bool} (h : Ord lt) (a b : α × Int) : le lt a b ↔ (lt a.1 b.1 = true ∨ (lt b.1 a.1 = false ∧ a.2 ≤ b.2)) := by
  unfold le ahd
  by_cases h1 : b.2 < a.2
  · have h2 : ¬ a.2 ≤ b.2 := by omega
    simp [h1, h2]
  · have h2 : a.2 ≤ b.2 := by omega
    simp only [h1, if_false, h2, and_true]
    constructor
    · intro e; exact Or.inr e
    · intro e
      rcases e with e | e
      · exact h.asym _ _ e
      · exact e

theorem le_refl {lt : α → α → Bool} (h : Ord lt) (a : α × Int) : le lt a a := (le_iff h a a).2 (Or.inr ⟨h.irrefl _, Int.le_refl _⟩)

theorem le_trans {lt : α → α → Bool} (h : Ord lt) {a b c : α × Int} (h1 : le lt a b) (h2 : le lt b c) : le lt a c := by
  rw [le_iff h] at *
  have tr : ∀ x y z, lt x y = true → lt z y = false → lt x z = true := by
    intro x y z e1 e2
    cases e3 : lt x z
    · have := h.ntrans _ _ _ e3 e2
      rw [e1] at this; cases this
    · rfl
  have tr2 : ∀ x y z, lt y x = false → lt y z = true → lt x z = true := by
    intro x y z e1 e2
    cases e3 : lt x z
    · have := h.ntrans _ _ _ e1 e3
      rw [e2] at this; cases this
    · rfl
  rcases h1 with h1 | ⟨h1, p1⟩ <;> rcases h2 with h2 | ⟨h2, p2⟩
  · exact Or.inl (tr _ _ _ h1 (h.asym _ _ h2))
  · exact Or.inl (tr _ _ _ h1 h2)
  · exact Or.inl (tr2 _ _ _ h1 h2)
  · exact Or.inr ⟨h.ntrans _ _ _ h2 h1, by omega⟩

theorem le_of_ahd {lt : α → α → Bool} (h : Ord lt) {a b : α × Int} (e : ahd lt a b = true) : le lt a b := by
  rw [le_iff h]
  unfold ahd at e
  by_cases h1 : a.2 < b.2
  · simp only [h1, if_true, Bool.not_eq_true'] at e
    exact Or.inr ⟨e, by omega⟩
  · simp only [h1, if_false] at e
    exact Or.inl e

section
variable {β : Type} [Inhabited β]
def sw (l : List β) (i j : Nat) : List β := (l.set i (l.getD j default)).set j (l.getD i default)
theorem sw_length (l : List β) (i j : Nat) : (sw l i j).length = l.length := by simp [sw]
theorem sw_get (l : List β) {i j : Nat} (hi : i < l.length) (hj : j < l.length) (k : Nat) :
    (sw l i j).getD k default = if k = j then l.getD i default else if k = i then l.getD j default else l.getD k default := by
  unfold sw
  simp only [List.getD_eq_getElem?_getD, List.getElem?_set, List.length_set]
  by_cases h1 : j = k
  · subst h1; simp [hj]
  · by_cases h2 : i = k
    · subst h2; simp [h1, hi, Ne.symm h1]
    · simp [h1, h2, Ne.symm h1, Ne.symm h2]
theorem sw_perm (l : List β) {i j : Nat} (hi : i < l.length) (hj : j < l.length) : (sw l i j).Perm l := by
  have := Go.Sort.perm_set_set l i j hi hj
  unfold sw
  simpa [List.getD_eq_getElem?_getD, List.getElem?_eq_getElem hi, List.getElem?_eq_getElem hj] using this
end

variable [Inhabited α]
/-- The thing at i. -/
def at_ (l : List (α × Int)) (i : Nat) : α × Int := l.getD i default
def Hp (lt : α → α → Bool) (l : List (α × Int)) : Prop := ∀ j, 0 < j → j < l.length → le lt (at_ l ((j - 1) / 2)) (at_ l j)
def HpR (lt : α → α → Bool) (l : List (α × Int)) (i : Nat) : Prop :=
  (∀ j, 0 < j → j < l.length → j ≠ i → le lt (at_ l ((j - 1) / 2)) (at_ l j)) ∧ (∀ j, 0 < j → j < l.length → 0 < i → (j - 1) / 2 = i → le lt (at_ l ((i - 1) / 2)) (at_ l j))
def HpS (lt : α → α → Bool) (l : List (α × Int)) (i : Nat) : Prop :=
  (∀ j, 0 < j → j < l.length → (j - 1) / 2 ≠ i → le lt (at_ l ((j - 1) / 2)) (at_ l j)) ∧ (∀ j, 0 < j → j < l.length → 0 < i → (j - 1) / 2 = i → le lt (at_ l ((i - 1) / 2)) (at_ l j))

variable {lt : α → α → Bool}
theorem at_sw (l : List (α × Int)) {i j : Nat} (hi : i < l.length) (hj : j < l.length) (k : Nat) : at_ (sw l i j) k = if k = j then at_ l i else if k = i then at_ l j else at_ l k := sw_get l hi hj k

theorem rise_done0 {l : List (α × Int)} {i : Nat} (h : HpR lt l i) (hi : i = 0) : Hp lt l := fun j h0 hj => h.1 j h0 hj (by omega)
theorem rise_done {l : List (α × Int)} {i : Nat} (h : HpR lt l i) (ha : ahd lt (at_ l i) (at_ l ((i - 1) / 2)) = false) : Hp lt l := by
  intro j h0 hj
  by_cases e : j = i
  · subst e; exact ha
  · exact h.1 j h0 hj e
theorem rise_step (hO : Ord lt) {l : List (α × Int)} {i : Nat} (h : HpR lt l i) (h0 : 0 < i) (hi : i < l.length) (ha : ahd lt (at_ l i) (at_ l ((i - 1) / 2)) = true) : HpR lt (sw l i ((i - 1) / 2)) ((i - 1) / 2) := by
  have hp : (i - 1) / 2 < l.length := by omega
  have hle := le_of_ahd hO ha
  refine ⟨fun j j0 hj hne => ?_, fun j j0 hj p0 hjp => ?_⟩ <;> rw [sw_length] at hj
  · rw [at_sw l hi hp, at_sw l hi hp, if_neg hne]
    by_cases e1 : (j - 1) / 2 = (i - 1) / 2
    · rw [if_pos e1]
      by_cases e2 : j = i
      · rw [if_pos e2]; exact hle
      · rw [if_neg e2]
        have := h.1 j j0 hj e2
        rw [e1] at this
        exact le_trans hO hle this
    · rw [if_neg e1]
      by_cases e3 : (j - 1) / 2 = i
      · rw [if_pos e3, if_neg (by omega)]
        exact h.2 j j0 hj h0 e3
      · rw [if_neg e3]
        by_cases e2 : j = i
        · omega
        · rw [if_neg e2]
          exact h.1 j j0 hj e2
  · rw [at_sw l hi hp, at_sw l hi hp, if_neg (by omega), if_neg (by omega), if_neg (by omega)]
    have hpp := h.1 ((i - 1) / 2) p0 hp (by omega)
    by_cases e2 : j = i
    · rw [if_pos e2]; exact hpp
    · rw [if_neg e2]
      have := h.1 j j0 hj e2
      rw [hjp] at this
      exact le_trans hO hpp this

theorem sink_done {l : List (α × Int)} {i : Nat} (h : HpS lt l i) (hc : l.length ≤ 2 * i + 1) : Hp lt l := fun j h0 hj => h.1 j h0 hj (by omega)
theorem sink_done2 (hO : Ord lt) {l : List (α × Int)} {i c : Nat} (h : HpS lt l i) (hmin : ∀ d, (d = 2 * i + 1 ∨ d = 2 * i + 2) → d < l.length → le lt (at_ l c) (at_ l d)) (ha : ahd lt (at_ l c) (at_ l i) = false) : Hp lt l := by
  intro j h0 hj
  by_cases e : (j - 1) / 2 = i
  · rw [e]; exact le_trans hO ha (hmin j (by omega) hj)
  · exact h.1 j h0 hj e
theorem sink_step (hO : Ord lt) {l : List (α × Int)} {i c : Nat} (h : HpS lt l i) (hc : c = 2 * i + 1 ∨ c = 2 * i + 2) (hcl : c < l.length) (hmin : ∀ d, (d = 2 * i + 1 ∨ d = 2 * i + 2) → d < l.length → le lt (at_ l c) (at_ l d)) (ha : ahd lt (at_ l c) (at_ l i) = true) : HpS lt (sw l i c) c := by
  have hi : i < l.length := by omega
  have hle := le_of_ahd hO ha
  refine ⟨fun j j0 hj hne => ?_, fun j j0 hj p0 hjp => ?_⟩ <;> rw [sw_length] at hj
  · rw [at_sw l hi hcl, at_sw l hi hcl, if_neg hne]
    by_cases e1 : (j - 1) / 2 = i
    · rw [if_pos e1]
      by_cases e2 : j = c
      · rw [if_pos e2]; exact hle
      · rw [if_neg e2, if_neg (by omega)]
        exact hmin j (by omega) hj
    · rw [if_neg e1]
      by_cases e2 : j = c
      · omega
      · rw [if_neg e2]
        by_cases e3 : j = i
        · rw [if_pos e3]
          subst e3
          exact h.2 c (by omega) hcl (by omega) (by omega)
        · rw [if_neg e3]
          exact h.1 j j0 hj e1
  · rw [at_sw l hi hcl, at_sw l hi hcl, if_neg (by omega), if_pos (by omega), if_neg (by omega), if_neg (by omega)]
    have := h.1 j j0 hj (by omega)
    rw [hjp] at this
    exact this

theorem hp_top (hO : Ord lt) {l : List (α × Int)} (h : Hp lt l) : ∀ j, j < l.length → le lt (at_ l 0) (at_ l j) := by
  intro j
  induction j using Nat.strongRecOn with
  | _ j ih =>
    intro hj
    by_cases h0 : j = 0
    · subst h0; exact le_refl hO _
    · exact le_trans hO (ih ((j - 1) / 2) (by omega) (by omega)) (h j (by omega) hj)

theorem at_append (l : List (α × Int)) (x : α × Int) (k : Nat) : at_ (l ++ [x]) k = if k < l.length then at_ l k else if k = l.length then x else default := by
  unfold at_
  simp only [List.getD_eq_getElem?_getD, List.getElem?_append]
  by_cases h : k < l.length
  · simp [h]
  · by_cases h2 : k = l.length
    · subst h2; simp
    · have : k - l.length ≠ 0 := by omega
      simp [h, h2, this]

theorem push_rise {l : List (α × Int)} (h : Hp lt l) (x : α × Int) : HpR lt (l ++ [x]) l.length := by
  refine ⟨fun j j0 hj hne => ?_, fun j j0 hj p0 hjp => ?_⟩ <;> simp at hj
  · rw [at_append, at_append, if_pos (by omega), if_pos (by omega)]
    exact h j j0 (by omega)
  · omega

/-- The last thing in the top's place, one fewer. -/
theorem drop_sink {l : List (α × Int)} (h : Hp lt l) : HpS lt ((l.set 0 (at_ l (l.length - 1))).take (l.length - 1)) 0 := by
  have key : ∀ k, 0 < k → k < l.length - 1 → at_ ((l.set 0 (at_ l (l.length - 1))).take (l.length - 1)) k = at_ l k := by
    intro k k0 hk
    show List.getD _ _ _ = List.getD _ _ _
    simp only [List.getD_eq_getElem?_getD]
    rw [List.getElem?_take, if_pos hk, List.getElem?_set, if_neg (by omega)]
  refine ⟨fun j j0 hj hne => ?_, fun j j0 hj p0 hjp => absurd p0 (by omega)⟩
  simp at hj
  rw [key _ (by omega) (by omega), key _ (by omega) (by omega)]
  exact h j j0 (by omega)

theorem getElem_cons_erase_perm {β : Type} {l : List β} {i : Nat} (h : i < l.length) : (l[i] :: l.eraseIdx i).Perm l := by
  induction l generalizing i with
  | nil => simp at h
  | cons x t ih =>
    cases i with
    | zero => exact List.Perm.refl _
    | succ i =>
      simp only [List.getElem_cons_succ, List.eraseIdx_cons_succ]
      exact (List.Perm.swap _ _ _).trans ((ih (by simpa using h)).cons x)
theorem map_erase {β γ : Type} (f : β → γ) (l : List β) (i : Nat) : (l.eraseIdx i).map f = (l.map f).eraseIdx i := by
  induction l generalizing i with
  | nil => rfl
  | cons x t ih =>
    cases i with
    | zero => rfl
    | succ i => simp [ih]

/-- The first of the least. -/
def First (lt : α → α → Bool) (L : List α) (a : Nat) : Prop :=
  a < L.length ∧ ∀ b, b < L.length → (b < a → lt (L.getD a default) (L.getD b default) = true) ∧ (a < b → lt (L.getD b default) (L.getD a default) = false)
theorem First.uniq {L : List α} {a b : Nat} (h : First lt L a) (k : First lt L b) : a = b := by
  rcases Nat.lt_trichotomy a b with e | e | e
  · have h1 := (h.2 b k.1).2 e
    have h2 := (k.2 a h.1).1 e
    rw [h1] at h2; cases h2
  · exact e
  · have h1 := (h.2 b k.1).1 e
    have h2 := (k.2 a h.1).2 e
    rw [h1] at h2; cases h2

/-- l holds the things of L, which lie in the order of pushing; c were pushed. -/
structure Hold (l : List (α × Int)) (L : List α) (c : Int) : Prop where
  ex : ∃ S : List (α × Int), S.Perm l ∧ S.map (·.1) = L ∧ S.Pairwise (fun a b => a.2 < b.2) ∧ ∀ x ∈ S, x.2 < c
  room : (L.length : Int) ≤ c
structure St (lt : α → α → Bool) (l : List (α × Int)) (L : List α) (c : Int) : Prop where
  hold : Hold l L c
  hp : Hp lt l
omit [Inhabited α] in
theorem Hold.len {l : List (α × Int)} {L : List α} {c : Int} (h : Hold l L c) : l.length = L.length := by
  obtain ⟨S, h1, h2, _⟩ := h.ex
  rw [← h1.length_eq, ← h2, List.length_map]
omit [Inhabited α] in
theorem Hold.perm {l l' : List (α × Int)} {L : List α} {c : Int} (h : Hold l L c) (hp : l'.Perm l) : Hold l' L c := by
  obtain ⟨S, h1, h2⟩ := h.ex
  exact ⟨⟨S, h1.trans hp.symm, h2⟩, h.room⟩
theorem St.nil : St lt [] [] 0 := ⟨⟨⟨[], List.Perm.refl _, rfl, List.Pairwise.nil, fun _ h => by cases h⟩, by simp⟩, fun j _ hj => absurd hj (by simp)⟩
omit [Inhabited α] in
theorem Hold.push {l : List (α × Int)} {L : List α} {c : Int} (h : Hold l L c) (x : α) : Hold (l ++ [(x, c)]) (L ++ [x]) (c + 1) := by
  obtain ⟨S, h1, h2, h3, h4⟩ := h.ex
  refine ⟨⟨S ++ [(x, c)], h1.append_right _, by simp [h2], ?_, ?_⟩, by have := h.room; simp; omega⟩
  · rw [List.pairwise_append]
    exact ⟨h3, List.pairwise_singleton _ _, fun a ha b hb => by simp at hb; subst hb; exact h4 a ha⟩
  · intro y hy
    rcases List.mem_append.1 hy with hy | hy
    · have := h4 y hy; omega
    · simp at hy; subst hy; show c < c + 1; omega
theorem St.top (hO : Ord lt) {l : List (α × Int)} {L : List α} {c : Int} (h : St lt l L c) (hne : 0 < l.length) : ∃ a, First lt L a ∧ L.getD a default = (at_ l 0).1 ∧ Hold l.tail (L.eraseIdx a) c := by
  obtain ⟨S, h1, h2, h3, h4⟩ := h.hold.ex
  obtain ⟨x0, t, rfl⟩ : ∃ x t, l = x :: t := by cases l with | nil => simp at hne | cons x t => exact ⟨x, t, rfl⟩
  have hx : x0 ∈ S := h1.mem_iff.2 (by simp)
  obtain ⟨a, ha, hSa⟩ := List.getElem_of_mem hx
  have hmin : ∀ y ∈ S, le lt x0 y := by
    intro y hy
    have hy' := h1.mem_iff.1 hy
    obtain ⟨j, hj, e⟩ := List.getElem_of_mem hy'
    have := hp_top hO h.hp j hj
    have e1 : at_ (x0 :: t) 0 = x0 := rfl
    have e2 : at_ (x0 :: t) j = y := by unfold at_; rw [List.getD_eq_getElem?_getD, List.getElem?_eq_getElem hj, e]; rfl
    rw [e1, e2] at this
    exact this
  have hg : ∀ b (hb : b < S.length), L.getD b default = (S[b]).1 := by
    intro b hb
    rw [← h2, List.getD_eq_getElem?_getD, List.getElem?_map, List.getElem?_eq_getElem hb]; rfl
  have hL : L.length = S.length := by rw [← h2, List.length_map]
  refine ⟨a, ⟨by omega, fun b hb => ⟨fun hlt => ?_, fun hlt => ?_⟩⟩, ?_, ?_⟩
  · rw [hg a ha, hg b (by omega), hSa]
    have hle := hmin _ (List.getElem_mem (show b < S.length by omega))
    have hp := List.pairwise_iff_getElem.1 h3 b a (by omega) ha hlt
    rw [hSa] at hp
    rcases (le_iff hO _ _).1 hle with e | e
    · exact e
    · omega
  · rw [hg a ha, hg b (by omega), hSa]
    have hle := hmin _ (List.getElem_mem (show b < S.length by omega))
    rcases (le_iff hO _ _).1 hle with e | e
    · exact hO.asym _ _ e
    · exact e.1
  · rw [hg a ha, hSa]; rfl
  · refine ⟨⟨S.eraseIdx a, ?_, ?_, ?_, ?_⟩, ?_⟩
    · have e1 := getElem_cons_erase_perm ha
      rw [hSa] at e1
      exact (List.perm_cons x0).1 (e1.trans h1)
    · rw [map_erase, h2]
    · exact h3.sublist (List.eraseIdx_sublist _ _)
    · exact fun y hy => h4 y ((List.eraseIdx_sublist _ _).subset hy)
    · have := h.hold.room
      have := (List.eraseIdx_sublist L a).length_le
      omega
theorem drop_perm (l : List (α × Int)) (hne : 0 < l.length) : ((l.set 0 (at_ l (l.length - 1))).take (l.length - 1)).Perm l.tail := by
  obtain ⟨x0, t, rfl⟩ : ∃ x t, l = x :: t := by cases l with | nil => simp at hne | cons x t => exact ⟨x, t, rfl⟩
  rcases List.eq_nil_or_concat t with rfl | ⟨t0, z, rfl⟩
  · simp
  · have e1 : at_ (x0 :: t0.concat z) ((x0 :: t0.concat z).length - 1) = z := by
      unfold at_
      rw [List.getD_eq_getElem?_getD, List.concat_eq_append]
      simp
    rw [e1]
    have e2 : ((x0 :: t0.concat z).set 0 z).take ((x0 :: t0.concat z).length - 1) = z :: t0 := by
      simp
    rw [e2, List.concat_eq_append]
    simp only [List.tail_cons]
    exact (List.perm_append_comm (l₁ := t0) (l₂ := [z])).symm
end Go.Proofs.Ytkgknbjcllcndaa.HeapM
