/-
  Rows of ints, rows of pairs of ints in memory: of the call's own, and to be read. Conditions: none.
-/
import Derived.Test.YtkakeakdgidigaaBase
import Derived.Test.YtkakeakdgidigaaAppend
import Derived.Test.YtkakeakdgidigaaAppendRows
import Derived.Test.YtkakeakdgidigaaKtP
import Derived.Lib.Slices
import Derived.IntWalk
namespace Go.Proofs.Ytkakeakdgidigaa
open Go.RowKit Go.Proofs.Ytkakeakdgidigaa.KtM

theorem row_below15 {w w' : World} {B C k n : Nat} {e : TypeId} {v : Value} {xs : List Value} (h : w.ownsRow B e k v n xs) (o : Below C w w') (hC : w.heap.size ≤ C) : w'.ownsRow B e k v n xs := by
  refine ⟨h.1, ?_⟩
  rcases h.2 with q | ⟨g, cap, cur, hv, hB, hg, r⟩
  · exact Or.inl q
  · exact Or.inr ⟨g, cap, cur, hv, hB, (o.block g (Nat.lt_of_lt_of_le (Array.getElem?_eq_some_iff.1 hg).1 hC)).trans hg, r⟩
theorem row_base15 {w : World} {B C k n : Nat} {e : TypeId} {v : Value} {xs : List Value} (h : w.ownsRow B e k v n xs) (hC : C ≤ B) : w.ownsRow C e k v n xs := by
  refine ⟨h.1, ?_⟩
  rcases h.2 with q | ⟨g, cap, cur, hv, hg, r⟩
  · exact Or.inl q
  · exact Or.inr ⟨g, cap, cur, hv, by omega, r⟩
theorem row_form15 {w : World} {B k n : Nat} {e : TypeId} {v : Value} {xs : List Value} (h : w.ownsRow B e k v n xs) : ∃ ao cap, v = .slice ao n cap ∧ n ≤ cap := by
  rcases h.2 with ⟨h1, h2⟩ | ⟨_, cap, _, h, _, _, hc, _⟩
  · exact ⟨none, 0, by rw [h2]; exact h1, by omega⟩
  · exact ⟨_, cap, h, hc⟩

/-! Ints. -/
def ZiAt (w : World) (v : Value) (x : List Int) (n : Nat) : Prop :=
  x.length = n ∧ ∃ A c, v = .slice A n c ∧ (0 < n → ∃ b o, A = some ⟨b, o, none⟩ ∧ b < w.heap.size ∧ ∀ k, k < n → w.cell? ⟨b, o + k, none⟩ = some (.int .i64 (x.getD k 0)))
theorem ZiAt.below {w w' : World} {C n : Nat} {v : Value} {x : List Int} (h : ZiAt w v x n) (o : Below C w w') (hC : w.heap.size ≤ C) : ZiAt w' v x n := by
  obtain ⟨hl, A, c, rfl, hA⟩ := h
  refine ⟨hl, A, c, rfl, fun h0 => ?_⟩
  obtain ⟨b, q, e, hb, hc⟩ := hA h0
  exact ⟨b, q, e, Nat.lt_of_lt_of_le hb o.size, fun k hk => (o.cell (p := ⟨b, q + k, none⟩) (Nat.lt_of_lt_of_le hb hC)).trans (hc k hk)⟩
theorem ZiAt.form {w : World} {n : Nat} {v : Value} {x : List Int} (h : ZiAt w v x n) : ∃ A c, v = .slice A n c := by obtain ⟨_, A, c, e, _⟩ := h; exact ⟨A, c, e⟩
theorem ZiAt.nth {w : World} {n : Nat} {v : Value} {x : List Int} (h : ZiAt w v x n) {k : Nat} (hk : k < n) : ∃ b o c, v = .slice (some ⟨b, o, none⟩) n c ∧ b < w.heap.size ∧ w.cell? ⟨b, o + k, none⟩ = some (.int .i64 (x.getD k 0)) := by
  obtain ⟨hl, A, c, rfl, hA⟩ := h
  obtain ⟨b, q, rfl, hb, hc⟩ := hA (by omega)
  exact ⟨b, q, c, rfl, hb, hc k hk⟩
/-- Where the elements lie: none, or one block for as long as nothing below is turned. -/
theorem ZiAt.rows {w : World} {n : Nat} {A : Option Addr} {c : Nat} {x : List Int} (h : ZiAt w (.slice A n c) x n) : n = 0 ∨ ∃ b o, A = some ⟨b, o, none⟩ ∧ ∀ w', Below w.heap.size w w' → b < w'.heap.size ∧ ∀ k, k < n → w'.cell? ⟨b, o + k, none⟩ = some (.int .i64 (x.getD k 0)) := by
  by_cases h0 : n = 0
  · exact Or.inl h0
  · obtain ⟨hl, A', c', e, hA⟩ := h
    simp only [Value.slice.injEq, true_and] at e
    obtain ⟨rfl, rfl⟩ := e
    obtain ⟨b, q, rfl, hb, hc⟩ := hA (by omega)
    exact Or.inr ⟨b, q, rfl, fun w' o => ⟨Nat.lt_of_lt_of_le hb o.size, fun k hk => (o.cell (p := ⟨b, q + k, none⟩) hb).trans (hc k hk)⟩⟩
def OwnJ (w : World) (B : Nat) (v : Value) (x : List Int) (n : Nat) : Prop := w.ownsRow B 3 1 v n (x.map (Value.int .i64))
theorem OwnJ.nil (w : World) (B : Nat) : OwnJ w B (.slice none 0 0) [] 0 := World.ownsRow_nil _ _ _ _
theorem OwnJ.len {w : World} {B n : Nat} {v : Value} {x : List Int} (h : OwnJ w B v x n) : x.length = n := by simpa using h.1
theorem OwnJ.below {w w' : World} {B C n : Nat} {v : Value} {x : List Int} (h : OwnJ w B v x n) (o : Below C w w') (hC : w.heap.size ≤ C) : OwnJ w' B v x n := row_below15 h o hC
theorem OwnJ.base {w : World} {B C n : Nat} {v : Value} {x : List Int} (h : OwnJ w B v x n) (hC : C ≤ B) : OwnJ w C v x n := row_base15 h hC
theorem OwnJ.zs {w : World} {B n : Nat} {v : Value} {x : List Int} (h : OwnJ w B v x n) : ZiAt w v x n := by
  have h' := h
  have hl := h.len
  rcases h.2 with ⟨h1, h2⟩ | ⟨g, cap, cur, hv, _, hg, r⟩
  · exact ⟨hl, none, 0, by rw [h2]; exact h1, fun h => absurd h (by omega)⟩
  · refine ⟨hl, _, cap, hv, fun _ => ⟨g, 0, rfl, (Array.getElem?_eq_some_iff.1 hg).1, fun k hk => ?_⟩⟩
    rw [Nat.zero_add]
    have h2 := h'
    unfold OwnJ at h2
    rw [hv] at h2
    rw [h2.cellAt k (by simp; omega)]
    have : k < x.length := by omega
    simp [this, List.getD_eq_getElem?_getD]
theorem OwnJ.more {w : World} {B n : Nat} {v : Value} {x : List Int} {a : Int} (h : w.ownsRow B 3 1 v (n + 1) (x.map (Value.int .i64) ++ [.int .i64 a])) : OwnJ w B v (x ++ [a]) (n + 1) := by
  unfold OwnJ
  rw [List.map_append]
  exact h
theorem OwnJ.two {w : World} {B n : Nat} {v : Value} {x : List Int} {a b : Int} (h : w.ownsRow B 3 1 v (n + 2) (x.map (Value.int .i64) ++ [.int .i64 a, .int .i64 b])) : OwnJ w B v (x ++ [a, b]) (n + 2) := by
  unfold OwnJ
  rw [List.map_append]
  exact h
theorem infoI15 : (Try.prog.info? 3).map (fun i => (i.zero, i.size, i.bytes)) = some (some (.int .i64 0), 1, 8) := by kernel_rfl
theorem ints_one15 (x : List Int) : ∀ u ∈ x.map (Value.int .i64), u.oneCell' = true := fun u hu => by
  obtain ⟨y, _, rfl⟩ := List.mem_map.1 hu; rfl
theorem int_one15 (a : Int) : ∀ u ∈ [Value.int .i64 a], u.oneCell' = true := fun u hu => by
  obtain rfl := List.mem_singleton.1 hu; rfl
theorem int_news15 (w : World) (g : Nat) (x : Int) (T : TypeId) (h : w.heap[g]? = some (.cells #[.int .i64 x] T (0, 0))) : ∀ j z, [Value.int .i64 x][j]? = some z → w.cell? ((⟨g, 0, none⟩ : Addr).add j) = some z := by
  intro j z hz
  match j with
  | 0 => simp at hz; subst hz; simp [World.cell?, Addr.add, h]
  | j + 1 => simp at hz
theorem ziNew15 (w : World) (g : Nat) (x : List Int) (n : Nat) (hn : x.length = n) (T : TypeId) (h : w.heap[g]? = some (.cells (x.map (Value.int .i64)).toArray T (0, 0))) : ZiAt w (.slice (some ⟨g, 0, none⟩) n n) x n := by
  subst hn
  refine ⟨rfl, _, _, rfl, fun _ => ⟨g, 0, rfl, (Array.getElem?_eq_some_iff.1 h).1, fun k hk => ?_⟩⟩
  simp [World.cell?, h, hk]
/-! A row of ints with room. -/
def ZcAt (w : World) (v : Value) (x : List Int) (n : Nat) : Prop := ZiAt w v x n ∧ ∃ A c, v = .slice A n c ∧ n ≤ c
theorem ZcAt.below {w w' : World} {C n : Nat} {v : Value} {x : List Int} (h : ZcAt w v x n) (o : Below C w w') (hC : w.heap.size ≤ C) : ZcAt w' v x n := ⟨h.1.below o hC, h.2⟩
theorem OwnJ.zc {w : World} {B n : Nat} {v : Value} {x : List Int} (h : OwnJ w B v x n) : ZcAt w v x n := ⟨h.zs, row_form15 h⟩
theorem ZcAt.take {w : World} {A : Option Addr} {n c : Nat} {x : List Int} (h : ZcAt w (.slice A n c) x n) {k : Nat} (hk : k ≤ n) : ZcAt w (.slice A k c) (x.take k) k := by
  obtain ⟨⟨hl, A', c', e, hA⟩, A2, c2, e2, hc⟩ := h
  simp only [Value.slice.injEq, true_and] at e e2
  obtain ⟨rfl, rfl⟩ := e
  obtain ⟨rfl, rfl⟩ := e2
  refine ⟨⟨by rw [List.length_take]; omega, A, c, rfl, fun h0 => ?_⟩, A, c, rfl, by omega⟩
  obtain ⟨b, o, e, hb, hx⟩ := hA (by omega)
  refine ⟨b, o, e, hb, fun j hj => ?_⟩
  rw [hx j (by omega), List.getD_eq_getElem?_getD, List.getD_eq_getElem?_getD, List.getElem?_take, if_pos hj]
theorem ZcAt.drop {w : World} {b o n c : Nat} {x : List Int} (h : ZcAt w (.slice (some ⟨b, o, none⟩) n c) x n) {k : Nat} (hk : k < n) : ZcAt w (.slice (some ⟨b, o + k, none⟩) (n - k) (c - k)) (x.drop k) (n - k) := by
  obtain ⟨⟨hl, A', c', e, hA⟩, A2, c2, e2, hc⟩ := h
  simp only [Value.slice.injEq, true_and] at e e2
  obtain ⟨rfl, rfl⟩ := e
  obtain ⟨rfl, rfl⟩ := e2
  refine ⟨⟨by rw [List.length_drop]; omega, _, _, rfl, fun h0 => ?_⟩, _, _, rfl, by omega⟩
  obtain ⟨b', o', e, hb, hx⟩ := hA (by omega)
  simp only [Option.some.injEq, Addr.mk.injEq, and_true] at e
  obtain ⟨rfl, rfl⟩ := e
  refine ⟨b, o + k, rfl, hb, fun j hj => ?_⟩
  rw [Nat.add_assoc, hx (k + j) (by omega), List.getD_eq_getElem?_getD, List.getD_eq_getElem?_getD, List.getElem?_drop]

/-! Pairs of ints. -/
def enc15 (c : Nat × Nat) : List Value := [.int .i64 (c.1 : Int), .int .i64 (c.2 : Int)]
theorem enc15_len (C : List (Nat × Nat)) : (C.flatMap enc15).length = C.length * 2 := by
  induction C with
  | nil => rfl
  | cons p C ih => simp [List.flatMap_cons, enc15, ih]; omega
theorem enc15_at : ∀ (C : List (Nat × Nat)) (k : Nat), k < C.length → (C.flatMap enc15)[k * 2]? = some (.int .i64 ((C.getD k (0, 0)).1 : Int)) ∧ (C.flatMap enc15)[k * 2 + 1]? = some (.int .i64 ((C.getD k (0, 0)).2 : Int))
  | [], k, h => absurd h (by simp)
  | p :: C, 0, _ => ⟨rfl, rfl⟩
  | p :: C, k + 1, h => by
    have := enc15_at C k (by simpa using h)
    have e1 : (k + 1) * 2 = k * 2 + 1 + 1 := by omega
    rw [e1]
    simpa [List.flatMap_cons, enc15] using this
theorem enc15_one (C : List (Nat × Nat)) : ∀ u ∈ C.flatMap enc15, u.oneCell' = true := fun u hu => by
  obtain ⟨p, _, hp⟩ := List.mem_flatMap.1 hu
  simp only [enc15, List.mem_cons, List.not_mem_nil, or_false] at hp
  rcases hp with rfl | rfl <;> rfl
def OwnC (T : TypeId) (w : World) (B : Nat) (v : Value) (C : List (Nat × Nat)) (n : Nat) : Prop := C.length = n ∧ w.ownsRow B T 2 v n (C.flatMap enc15)
theorem OwnC.nil (T : TypeId) (w : World) (B : Nat) : OwnC T w B (.slice none 0 0) [] 0 := ⟨rfl, World.ownsRow_nil _ _ _ _⟩
theorem OwnC.below {T : TypeId} {w w' : World} {B E n : Nat} {v : Value} {C : List (Nat × Nat)} (h : OwnC T w B v C n) (o : Below E w w') (hE : w.heap.size ≤ E) : OwnC T w' B v C n := ⟨h.1, row_below15 h.2 o hE⟩
theorem OwnC.form {T : TypeId} {w : World} {B n : Nat} {v : Value} {C : List (Nat × Nat)} (h : OwnC T w B v C n) : ∃ ao cap, v = .slice ao n cap ∧ n ≤ cap := row_form15 h.2
theorem OwnC.more {T : TypeId} {w : World} {B n i p : Nat} {v : Value} {C : List (Nat × Nat)} (hn : C.length = n) (h : w.ownsRow B T 2 v (n + 1) (C.flatMap enc15 ++ [.int .i64 (i : Int), .int .i64 (p : Int)])) : OwnC T w B v (C ++ [(i, p)]) (n + 1) := by
  refine ⟨by rw [List.length_append, hn]; rfl, ?_⟩
  rw [List.flatMap_append]
  simpa [enc15] using h
/-- .. to be read. -/
def CsAt (w : World) (v : Value) (C : List (Nat × Nat)) (n : Nat) : Prop :=
  C.length = n ∧ ∃ A c, v = .slice A n c ∧ (0 < n → ∃ b o, A = some ⟨b, o, none⟩ ∧ b < w.heap.size ∧ ∀ k, k < n → w.cell? ⟨b, o + k * 2, none⟩ = some (.int .i64 ((C.getD k (0, 0)).1 : Int)) ∧ w.cell? ⟨b, o + k * 2 + 1, none⟩ = some (.int .i64 ((C.getD k (0, 0)).2 : Int)))
theorem CsAt.below {w w' : World} {E n : Nat} {v : Value} {C : List (Nat × Nat)} (h : CsAt w v C n) (o : Below E w w') (hE : w.heap.size ≤ E) : CsAt w' v C n := by
  obtain ⟨hl, A, c, rfl, hA⟩ := h
  refine ⟨hl, A, c, rfl, fun h0 => ?_⟩
  obtain ⟨b, q, e, hb, hc⟩ := hA h0
  exact ⟨b, q, e, Nat.lt_of_lt_of_le hb o.size, fun k hk => ⟨(o.cell (p := ⟨b, q + k * 2, none⟩) (Nat.lt_of_lt_of_le hb hE)).trans (hc k hk).1, (o.cell (p := ⟨b, q + k * 2 + 1, none⟩) (Nat.lt_of_lt_of_le hb hE)).trans (hc k hk).2⟩⟩
theorem CsAt.rows {w : World} {n : Nat} {A : Option Addr} {c : Nat} {C : List (Nat × Nat)} (h : CsAt w (.slice A n c) C n) : n = 0 ∨ ∃ b o, A = some ⟨b, o, none⟩ ∧ ∀ w', Below w.heap.size w w' → b < w'.heap.size ∧ ∀ k, k < n → w'.cell? ⟨b, o + k * 2, none⟩ = some (.int .i64 ((C.getD k (0, 0)).1 : Int)) ∧ w'.cell? ⟨b, o + k * 2 + 1, none⟩ = some (.int .i64 ((C.getD k (0, 0)).2 : Int)) := by
  by_cases h0 : n = 0
  · exact Or.inl h0
  · have h2 := h
    obtain ⟨hl, A', c', e, hA⟩ := h
    simp only [Value.slice.injEq, true_and] at e
    obtain ⟨rfl, rfl⟩ := e
    obtain ⟨b, q, rfl, hb, hc⟩ := hA (by omega)
    exact Or.inr ⟨b, q, rfl, fun w' o => ⟨Nat.lt_of_lt_of_le hb o.size, fun k hk => ⟨(o.cell (p := ⟨b, q + k * 2, none⟩) hb).trans (hc k hk).1, (o.cell (p := ⟨b, q + k * 2 + 1, none⟩) hb).trans (hc k hk).2⟩⟩⟩
theorem OwnC.cs {T : TypeId} {w : World} {B n : Nat} {v : Value} {C : List (Nat × Nat)} (h : OwnC T w B v C n) : CsAt w v C n := by
  obtain ⟨hl, h⟩ := h
  subst hl
  have h' := h
  rcases h.2 with ⟨rfl, h2⟩ | ⟨g, cap, cur, rfl, _, hg, hn, hr⟩
  · exact ⟨rfl, none, 0, by rw [h2], fun h => absurd h (by omega)⟩
  · refine ⟨rfl, _, cap, rfl, fun _ => ⟨g, 0, rfl, (Array.getElem?_eq_some_iff.1 hg).1, fun k hk => ?_⟩⟩
    have e := enc15_at C k hk
    have hl := enc15_len C
    rw [Nat.zero_add, h'.cellAt (k * 2) (by omega), h'.cellAt (k * 2 + 1) (by omega)]
    exact e
theorem pair_one15 (a b : Int) : ∀ u ∈ [Value.int .i64 a, Value.int .i64 b], u.oneCell' = true := fun u hu => by
  simp only [List.mem_cons, List.not_mem_nil, or_false] at hu
  rcases hu with rfl | rfl <;> rfl
theorem pair_news15 (w : World) (g : Nat) (x y : Int) (T : TypeId) (h : w.heap[g]? = some (.cells #[.int .i64 x, .int .i64 y] T (0, 0))) : ∀ j z, [Value.int .i64 x, Value.int .i64 y][j]? = some z → w.cell? ((⟨g, 0, none⟩ : Addr).add j) = some z := by
  intro j z hz
  match j with
  | 0 => simp at hz; subst hz; simp [World.cell?, Addr.add, h]
  | 1 => simp at hz; subst hz; simp [World.cell?, Addr.add, h]
  | j + 2 => simp at hz
end Go.Proofs.Ytkakeakdgidigaa
