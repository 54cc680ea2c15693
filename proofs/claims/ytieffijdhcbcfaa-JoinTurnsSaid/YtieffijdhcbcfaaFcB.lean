/-
  Rows of ints, rows of darts, rows of faces in memory: of the call's own, and to be read. Conditions: none.
-/
import Derived.Test.YtieffijdhcbcfaaFcA
import Derived.Test.YtieffijdhcbcfaaFzQ
import Derived.Lib.Slices
namespace Go.Proofs.Ytieffijdhcbcfaa
open Go.RowKit Go.Proofs.Ytieffijdhcbcfaa.GrM Go.Proofs.Ytieffijdhcbcfaa.FcM

theorem own_kind12 {w : World} {B k n p : Nat} {e T : TypeId} {v : Value} {xs : List Value} {cur : Array Value} {fz : Nat × Nat} (h : w.ownsRow B e k v n xs) (hp : w.heap[p]? = some (.cells cur T fz)) (hT : T ≠ e) : v.ownBlock ≠ some p := by
  intro hc
  rcases h.2 with ⟨rfl, _⟩ | ⟨g, cap, c2, rfl, _, hg, _⟩
  · cases hc
  · have : g = p := by simpa [Value.ownBlock] using hc
    subst this; rw [hg] at hp
    simp only [Option.some.injEq, Obj.cells.injEq] at hp
    exact hT hp.2.1.symm
theorem row_ne12 {w : World} {base base' size size' n n' : Nat} {e e' : TypeId} {v v' : Value} {xs xs' : List Value} (h : w.ownsRow base e size v n xs) (h' : w.ownsRow base' e' size' v' n' xs') (hne : e ≠ e') : ∀ b, v.ownBlock = some b → v'.ownBlock ≠ some b := by
  intro b hb hc
  rcases h.2 with ⟨rfl, _⟩ | ⟨g, cap, c2, rfl, _, hg, _⟩
  · cases hb
  · have : g = b := by simpa [Value.ownBlock] using hb
    subst this
    exact own_kind12 h' hg hne hc
theorem row_base12 {w : World} {B C k n : Nat} {e : TypeId} {v : Value} {xs : List Value} (h : w.ownsRow B e k v n xs) (hC : C ≤ B) : w.ownsRow C e k v n xs := by
  refine ⟨h.1, ?_⟩
  rcases h.2 with q | ⟨g, cap, cur, hv, hg, r⟩
  · exact Or.inl q
  · exact Or.inr ⟨g, cap, cur, hv, by omega, r⟩
theorem row_below12 {w w' : World} {B C k n : Nat} {e : TypeId} {v : Value} {xs : List Value} (h : w.ownsRow B e k v n xs) (o : Below C w w') (hC : w.heap.size ≤ C) : w'.ownsRow B e k v n xs := ownsRow_out (S := fun _ => False) h (Out.ofBelow (o.mono hC)) (fun _ _ e => e)
theorem row_form12 {w : World} {B k n : Nat} {e : TypeId} {v : Value} {xs : List Value} (h : w.ownsRow B e k v n xs) : ∃ ao cap, v = .slice ao n cap := by
  rcases h.2 with ⟨h1, h2⟩ | ⟨_, _, _, h, _⟩
  · exact ⟨none, 0, by rw [h2]; exact h1⟩
  · exact ⟨_, _, h⟩

/-! Ints. -/
def ZsAt (w : World) (v : Value) (x : List Int) (n : Nat) : Prop :=
  x.length = n ∧ ∃ A c, v = .slice A n c ∧ (0 < n → ∃ b o, A = some ⟨b, o, none⟩ ∧ b < w.heap.size ∧ ∀ k, k < n → w.cell? ⟨b, o + k, none⟩ = some (.int .i64 (x.getD k 0)))
theorem ZsAt.below {w w' : World} {C n : Nat} {v : Value} {x : List Int} (h : ZsAt w v x n) (o : Below C w w') (hC : w.heap.size ≤ C) : ZsAt w' v x n := by
  obtain ⟨hl, A, c, rfl, hA⟩ := h
  refine ⟨hl, A, c, rfl, fun h0 => ?_⟩
  obtain ⟨b, q, e, hb, hc⟩ := hA h0
  exact ⟨b, q, e, Nat.lt_of_lt_of_le hb o.size, fun k hk => (o.cell (p := ⟨b, q + k, none⟩) (Nat.lt_of_lt_of_le hb hC)).trans (hc k hk)⟩
theorem ZsAt.form {w : World} {n : Nat} {v : Value} {x : List Int} (h : ZsAt w v x n) : ∃ A c, v = .slice A n c := by obtain ⟨_, A, c, e, _⟩ := h; exact ⟨A, c, e⟩
theorem ZsAt.nth {w : World} {n : Nat} {v : Value} {x : List Int} (h : ZsAt w v x n) {k : Nat} (hk : k < n) : ∃ b o c, v = .slice (some ⟨b, o, none⟩) n c ∧ b < w.heap.size ∧ w.cell? ⟨b, o + k, none⟩ = some (.int .i64 (x.getD k 0)) := by
  obtain ⟨hl, A, c, rfl, hA⟩ := h
  obtain ⟨b, q, rfl, hb, hc⟩ := hA (by omega)
  exact ⟨b, q, c, rfl, hb, hc k hk⟩
def OwnZ (w : World) (B : Nat) (v : Value) (x : List Int) (n : Nat) : Prop := w.ownsRow B 3 1 v n (x.map intV)
theorem OwnZ.len {w : World} {B n : Nat} {v : Value} {x : List Int} (h : OwnZ w B v x n) : x.length = n := by simpa using h.1
theorem OwnZ.zs {w : World} {B n : Nat} {v : Value} {x : List Int} (h : OwnZ w B v x n) : ZsAt w v x n := by
  have h' := h
  have hl := h.len
  rcases h.2 with ⟨h1, h2⟩ | ⟨g, cap, cur, hv, _, hg, r⟩
  · exact ⟨hl, none, 0, by rw [h2]; exact h1, fun h => absurd h (by omega)⟩
  · refine ⟨hl, _, cap, hv, fun _ => ⟨g, 0, rfl, (Array.getElem?_eq_some_iff.1 hg).1, fun k hk => ?_⟩⟩
    rw [Nat.zero_add]
    have h2 := h'
    unfold OwnZ at h2
    rw [hv] at h2
    rw [h2.cellAt k (by simp; omega)]
    have : k < x.length := by omega
    simp [this, intV, List.getD_eq_getElem?_getD]
theorem OwnZ.more {w : World} {B n : Nat} {v : Value} {x : List Int} {a : Int} (h : w.ownsRow B 3 1 v (n + 1) (x.map intV ++ [.int .i64 a])) : OwnZ w B v (x ++ [a]) (n + 1) := by
  unfold OwnZ
  rw [List.map_append]
  exact h
theorem OwnZ.set {w : World} {B n g cap : Nat} {x : List Int} (h : OwnZ w B (.slice (some ⟨g, 0, none⟩) n cap) x n) (j : Nat) (a : Int) : OwnZ (w.setCell ⟨g, j, none⟩ (.int .i64 a)) B (.slice (some ⟨g, 0, none⟩) n cap) (x.set j a) n := by
  have := (World.ownsRow.stored h j (.int .i64 a)).1
  unfold OwnZ
  rw [List.map_set]
  exact this
theorem infoInt12 : (Try.prog.info? 3).map (fun i => (i.zero, i.size, i.bytes)) = some (some (.int .i64 0), 1, 8) := by kernel_rfl
theorem mkInts12 (N : Nat) (hN : N ≤ 1000000) (w : World) : (Instr.makeSlice 38 (.int .i64 (N : Int)) (.int .i64 (N : Int))).run Try.prog w = .ok (.slice (some ⟨w.heap.size, 0, none⟩) N N) (w.alloc (.cells (madeCells #[.int .i64 0] N) 3)) := by
  obtain ⟨i, hi, hz, hs, hb⟩ := info_parts infoInt12
  have h := run_make (P := Try.prog) w 38 3 i (.int .i64 0) Try.underlying38 hi hz .i64 .i64 (N : Int) (N : Int) (by omega) (by omega) (by rw [hb]; omega) (by omega)
  rw [hs, Nat.mul_one] at h
  simp only [Int.toNat_natCast] at h
  exact h
theorem ownZ_made (w : World) (N : Nat) (hN : N ≤ 1000000) : OwnZ (w.alloc (.cells (madeCells #[.int .i64 0] N) 3)) w.heap.size (.slice (some ⟨w.heap.size, 0, none⟩) N N) (List.replicate N 0) N := by
  refine ⟨by simp, Or.inr ⟨w.heap.size, N, _, rfl, Nat.le_refl _, heap_alloc_new w _, Nat.le_refl _, by unfold maxLen; omega, by simp [size_madeCells], ?_⟩⟩
  rw [toList_madeCells_one]
  simp [intV]

/-! Darts: a row of two numbers each, of one type or the other. -/
def OwnPr (T : TypeId) (w : World) (B : Nat) (v : Value) (P : List (Int × Int)) : Prop := w.ownsRow B T 2 v P.length (P.flatMap encP)
theorem OwnPr.nil (T : TypeId) (w : World) (B : Nat) : OwnPr T w B (.slice none 0 0) [] := World.ownsRow_nil _ _ _ _
theorem OwnPr.below {T : TypeId} {w w' : World} {B C : Nat} {v : Value} {P : List (Int × Int)} (h : OwnPr T w B v P) (o : Below C w w') (hC : w.heap.size ≤ C) : OwnPr T w' B v P := row_below12 h o hC
theorem OwnPr.base {T : TypeId} {w : World} {B C : Nat} {v : Value} {P : List (Int × Int)} (h : OwnPr T w B v P) (hC : C ≤ B) : OwnPr T w C v P := row_base12 h hC
theorem OwnPr.form {T : TypeId} {w : World} {B : Nat} {v : Value} {P : List (Int × Int)} (h : OwnPr T w B v P) : ∃ ao cap, v = .slice ao P.length cap := row_form12 h
theorem OwnPr.pts {T : TypeId} {w : World} {B : Nat} {v : Value} {P : List (Int × Int)} (h : OwnPr T w B v P) : PtsAt w v P := by
  have h' := h
  rcases h.2 with ⟨rfl, h2⟩ | ⟨g, cap, cur, rfl, _, hg, hn, hr⟩
  · exact ⟨none, 0, by rw [h2], by omega, fun h => absurd h (by omega)⟩
  · refine ⟨_, cap, rfl, hn, fun _ => ⟨g, 0, rfl, (Array.getElem?_eq_some_iff.1 hg).1, fun k hk => ?_⟩⟩
    have e := encP_at P k hk
    have hl := encP_len P
    rw [Nat.zero_add, h'.cellAt (k * 2) (by omega), h'.cellAt (k * 2 + 1) (by omega)]
    exact e
theorem OwnPr.more {T : TypeId} {w : World} {B n : Nat} {v : Value} {P : List (Int × Int)} {p : Int × Int} (hn : P.length = n) (h : w.ownsRow B T 2 v (n + 1) (P.flatMap encP ++ [.int .i64 p.1, .int .i64 p.2])) : OwnPr T w B v (P ++ [p]) := by
  unfold OwnPr
  rw [List.length_append, List.flatMap_append, hn]
  simpa [encP] using h
theorem encP_one (P : List (Int × Int)) : ∀ u ∈ P.flatMap encP, u.oneCell' = true := fun u hu => by
  obtain ⟨p, _, hp⟩ := List.mem_flatMap.1 hu
  simp only [encP, List.mem_cons, List.not_mem_nil, or_false] at hp
  rcases hp with rfl | rfl <;> rfl

/-! Faces: a row of rows of darts. -/
def FcsAt (w : World) (v : Value) (F : List (List (Int × Int))) (n : Nat) : Prop :=
  F.length = n ∧ ∃ A c, v = .slice A n c ∧ (0 < n → ∃ b o, A = some ⟨b, o, none⟩ ∧ b < w.heap.size ∧ ∀ k, k < n → ∃ s, w.cell? ⟨b, o + k, none⟩ = some s ∧ PtsAt w s (F.getD k []))
theorem FcsAt.below {w w' : World} {C n : Nat} {v : Value} {F : List (List (Int × Int))} (h : FcsAt w v F n) (o : Below C w w') (hC : w.heap.size ≤ C) : FcsAt w' v F n := by
  obtain ⟨hl, A, c, rfl, hA⟩ := h
  refine ⟨hl, A, c, rfl, fun h0 => ?_⟩
  obtain ⟨b, q, e, hb, hc⟩ := hA h0
  refine ⟨b, q, e, Nat.lt_of_lt_of_le hb o.size, fun k hk => ?_⟩
  obtain ⟨s, hs, hp⟩ := hc k hk
  exact ⟨s, (o.cell (p := ⟨b, q + k, none⟩) (Nat.lt_of_lt_of_le hb hC)).trans hs, hp.below o hC⟩
theorem FcsAt.form {w : World} {n : Nat} {v : Value} {F : List (List (Int × Int))} (h : FcsAt w v F n) : ∃ A c, v = .slice A n c := by obtain ⟨_, A, c, e, _⟩ := h; exact ⟨A, c, e⟩
theorem FcsAt.nth {w : World} {n : Nat} {v : Value} {F : List (List (Int × Int))} (h : FcsAt w v F n) {k : Nat} (hk : k < n) : ∃ b o c s, v = .slice (some ⟨b, o, none⟩) n c ∧ b < w.heap.size ∧ w.cell? ⟨b, o + k, none⟩ = some s ∧ PtsAt w s (F.getD k []) := by
  obtain ⟨hl, A, c, rfl, hA⟩ := h
  obtain ⟨b, q, rfl, hb, hc⟩ := hA (by omega)
  obtain ⟨s, hs, hp⟩ := hc k hk
  exact ⟨b, q, c, s, rfl, hb, hs, hp⟩
/-- .. of the call's own: the outer row's type, the inner rows'. -/
def OwnFc (To Ti : TypeId) (w : World) (B : Nat) (v : Value) (F : List (List (Int × Int))) (n : Nat) : Prop :=
  F.length = n ∧ ∃ S : List Value, w.ownsRow B To 1 v n S ∧ ∀ k, k < n → ∃ s, S[k]? = some s ∧ OwnPr Ti w B s (F.getD k [])
theorem OwnFc.nil (To Ti : TypeId) (w : World) (B : Nat) : OwnFc To Ti w B (.slice none 0 0) [] 0 := ⟨rfl, [], World.ownsRow_nil _ _ _ _, fun k hk => absurd hk (by omega)⟩
theorem OwnFc.below {To Ti : TypeId} {w w' : World} {B C n : Nat} {v : Value} {F : List (List (Int × Int))} (h : OwnFc To Ti w B v F n) (o : Below C w w') (hC : w.heap.size ≤ C) : OwnFc To Ti w' B v F n := by
  obtain ⟨hl, S, hr, hk⟩ := h
  exact ⟨hl, S, row_below12 hr o hC, fun k h => let ⟨s, a, b⟩ := hk k h; ⟨s, a, b.below o hC⟩⟩
theorem OwnFc.out {To Ti : TypeId} {w w' : World} {B n : Nat} {v : Value} {F : List (List (Int × Int))} {S : Nat → Prop} (h : OwnFc To Ti w B v F n) (o : Out S w w') (hS : ∀ b, B ≤ b → b < w.heap.size → ¬ S b) : OwnFc To Ti w' B v F n := by
  obtain ⟨hl, Z, hr, hk⟩ := h
  refine ⟨hl, Z, ownsRow_out hr o (fun b hb => hS b (hr.lt b hb).1 (hr.lt b hb).2), fun k h => let ⟨s, a, b⟩ := hk k h; ⟨s, a, ?_⟩⟩
  exact ownsRow_out b o (fun q hq => hS q (b.lt q hq).1 (b.lt q hq).2)
theorem OwnFc.form {To Ti : TypeId} {w : World} {B n : Nat} {v : Value} {F : List (List (Int × Int))} (h : OwnFc To Ti w B v F n) : ∃ ao cap, v = .slice ao n cap := by obtain ⟨_, S, hr, _⟩ := h; exact row_form12 hr
theorem OwnFc.fcs {To Ti : TypeId} {w : World} {B n : Nat} {v : Value} {F : List (List (Int × Int))} (h : OwnFc To Ti w B v F n) : FcsAt w v F n := by
  obtain ⟨hl, S, hr, hk⟩ := h
  have hr' := hr
  rcases hr.2 with ⟨h1, h2⟩ | ⟨g, cap, cur, hv, _, hg, r⟩
  · exact ⟨hl, none, 0, by rw [h2]; exact h1, fun h => absurd h (by omega)⟩
  · refine ⟨hl, _, cap, hv, fun _ => ⟨g, 0, rfl, (Array.getElem?_eq_some_iff.1 hg).1, fun k hkn => ?_⟩⟩
    obtain ⟨s, hs, hp⟩ := hk k hkn
    rw [hv] at hr'
    have hSl : S.length = n * 1 := hr'.1
    refine ⟨s, ?_, hp.pts⟩
    rw [Nat.zero_add, hr'.cellAt k (by omega), hs]
/-- A face more. -/
theorem OwnFc.more {To Ti : TypeId} {w w1 : World} {B n : Nat} {v v' s : Value} {F : List (List (Int × Int))} {f : List (Int × Int)} {S : List Value} (hne : Ti ≠ To) (hl : F.length = n) (hr : w.ownsRow B To 1 v n S) (hk : ∀ k, k < n → ∃ s, S[k]? = some s ∧ OwnPr Ti w B s (F.getD k []))
    (hf : OwnPr Ti w B s f) (hown : w1.ownsRow B To 1 v' (n + 1) (S ++ [s])) (hgrow : w.grownBy w1 v.ownBlock) : OwnFc To Ti w1 B v' (F ++ [f]) (n + 1) := by
  have o1 : Out (fun b => v.ownBlock = some b) w w1 := (Out.refl _ w).grown hgrow (fun _ _ e => e)
  have keep : ∀ {u : Value} {g : List (Int × Int)}, OwnPr Ti w B u g → OwnPr Ti w1 B u g := fun h => ownsRow_out h o1 (fun b hb e => row_ne12 h hr hne b hb e)
  have hSl : S.length = n := by have := hr.1; omega
  refine ⟨by simp [hl], S ++ [s], hown, fun k hkn => ?_⟩
  by_cases e : k = n
  · subst e
    refine ⟨s, by rw [List.getElem?_append_right (by omega), hSl]; simp, ?_⟩
    rw [List.getD_eq_getElem?_getD, List.getElem?_append_right (by omega), hl]
    simpa using keep hf
  · obtain ⟨u, hu, hp⟩ := hk k (by omega)
    refine ⟨u, by rw [List.getElem?_append_left (by omega)]; exact hu, ?_⟩
    rw [List.getD_eq_getElem?_getD, List.getElem?_append_left (by omega), ← List.getD_eq_getElem?_getD]
    exact keep hp
theorem sliceCell {v : Value} {A : Option Addr} {n c : Nat} (h : v = .slice A n c) : v.oneCell' = true := by subst h; rfl
end Go.Proofs.Ytieffijdhcbcfaa
