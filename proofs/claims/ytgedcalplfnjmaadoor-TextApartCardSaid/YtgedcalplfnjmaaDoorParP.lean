/-
  The law's argument opened: a struct of a slice of bools, a slice of triples of bytes, a slice of bytes. Conditions: none.
-/
import Derived.Test.YtgedcalplfnjmaaDoorParA
import Derived.Test.YtgedcalplfnjmaaDoorArgs
import Derived.Lib.SmallJoins
namespace Go.Proofs.YtgedcalplfnjmaaDoor
open Go.RowKit Go.ChangeShapes Go.WideShapes Go.Deep

/-- What a slice of triples of bytes reads as. -/
structure Tri8 (w : World) (A : Option Addr) (n : Nat) (D : Nat → Int × Int × Int) : Prop where
  at_ : 0 < n → ∃ b o, A = some ⟨b, o, none⟩ ∧ b < w.heap.size ∧ ∀ k, k < n → w.cell? ⟨b, o + k * 3, none⟩ = some (.int .u8 (D k).1) ∧ w.cell? ⟨b, o + k * 3 + 1, none⟩ = some (.int .u8 (D k).2.1) ∧ w.cell? ⟨b, o + k * 3 + 2, none⟩ = some (.int .u8 (D k).2.2)
  r : ∀ k, k < n → (0 ≤ (D k).1 ∧ (D k).1 ≤ 255) ∧ (0 ≤ (D k).2.1 ∧ (D k).2.1 ≤ 255) ∧ 0 ≤ (D k).2.2 ∧ (D k).2.2 ≤ 255
/-- What a slice of bytes reads as. -/
structure Byt8 (w : World) (A : Option Addr) (n : Nat) (D : Nat → Int) : Prop where
  at_ : 0 < n → ∃ b o, A = some ⟨b, o, none⟩ ∧ b < w.heap.size ∧ ∀ k, k < n → w.cell? ⟨b, o + k, none⟩ = some (.int .u8 (D k))
  r : ∀ k, k < n → 0 ≤ D k ∧ D k ≤ 255
theorem Tri8.below {w w' : World} {A : Option Addr} {n : Nat} {D : Nat → Int × Int × Int} (h : Tri8 w A n D) (o : Below w.heap.size w w') : Tri8 w' A n D := by
  refine ⟨fun h0 => ?_, h.r⟩
  obtain ⟨b, o', e, hb, hc⟩ := h.at_ h0
  refine ⟨b, o', e, Nat.lt_of_lt_of_le hb o.size, fun k hk => ?_⟩
  rw [o.cell (p := ⟨b, o' + k * 3, none⟩) hb, o.cell (p := ⟨b, o' + k * 3 + 1, none⟩) hb, o.cell (p := ⟨b, o' + k * 3 + 2, none⟩) hb]
  exact hc k hk
theorem Byt8.below {w w' : World} {A : Option Addr} {n : Nat} {D : Nat → Int} (h : Byt8 w A n D) (o : Below w.heap.size w w') : Byt8 w' A n D := by
  refine ⟨fun h0 => ?_, h.r⟩
  obtain ⟨b, o', e, hb, hc⟩ := h.at_ h0
  refine ⟨b, o', e, Nat.lt_of_lt_of_le hb o.size, fun k hk => ?_⟩
  rw [o.cell (p := ⟨b, o' + k, none⟩) hb]
  exact hc k hk
section
variable {H : Type} {enc : TypeId × Value → H} {P : Program} {w : World} {spare : Nat → Bool} {held : Bool}
/-- Nothing, or a row whose elements read by their type: of one cell that reads as a slice. -/
theorem rows_of8 {t e : TypeId} {fuel : Nat} {v : Value} {x : DataW H × List MemPlace} {K : Nat} (ht : P.underlying t = some (.slice e)) (hc : P.cellsOf e = K) (hK : 0 < K)
    (hf : DataW.trod enc P w 0 spare held fuel t [v] = some x) :
    (∃ A cap, v = .slice A 0 cap) ∨
    ∃ b o n cap, v = .slice (some ⟨b, o, none⟩) n cap ∧ RowAt w K b o n cap fun _ cs => ∃ fuel x, DataW.trod enc P w 0 spare held fuel e cs = some x := by
  subst hc
  rcases open_slice ht hf with ⟨h0, _⟩ | ⟨a', len, cap', m, k, D, Pl, hcs, _, hl, hm, hmm, _, hi⟩
  · simp only [List.cons.injEq, and_true] at h0
    exact Or.inl ⟨_, _, h0⟩
  · simp only [List.cons.injEq, and_true] at hcs
    subst hcs
    by_cases h0 : len = 0
    · subst h0
      exact Or.inl ⟨_, _, rfl⟩
    · have hnm : len ≤ m := by rw [hmm]; split <;> omega
      have hspot : a'.spot = none := by
        obtain ⟨cs', hc, _⟩ := hi 0 (by omega)
        obtain ⟨_, hlen, hat⟩ := World.cells?_some hc
        have := hat 0 hK
        rw [List.getElem?_eq_getElem (by omega)] at this
        have := World.cell?_spot this
        unfold Addr.add at this
        split at this <;> simp_all
      obtain ⟨b, o, spot⟩ := a'
      have e0 : spot = none := hspot
      subst e0
      have hcell : ∀ i, i < len → ∃ cs : List Value, cs.length = P.cellsOf e ∧ (∀ j, j < P.cellsOf e → w.cell? ⟨b, o + i * P.cellsOf e + j, none⟩ = cs[j]?) ∧ ∃ fuel x, DataW.trod enc P w 0 spare held fuel e cs = some x := by
        intro i hin
        obtain ⟨cs', hc, ht'⟩ := hi i (by omega)
        obtain ⟨_, hlen, hat⟩ := World.cells?_some hc
        refine ⟨cs', hlen, fun j hj => ?_, _, _, ht'⟩
        rw [← hat j hj, add_lit, add_lit]
      refine Or.inr ⟨b, o, len, cap', rfl, by omega, hl, hm, ?_, hcell⟩
      obtain ⟨cs', hlen, hat, _⟩ := hcell 0 (by omega)
      have := hat 0 hK
      rw [List.getElem?_eq_getElem (by omega)] at this
      exact lt_of_cell this
end
theorem wf_b8 {n : Int} (h : (Lit.int .u8 n).wf = true) : 0 ≤ n ∧ n ≤ 255 := by
  have h' : IntKind.u8.min ≤ n ∧ n ≤ IntKind.u8.max := by simpa [Lit.wf] using h
  exact h'
set_option maxRecDepth 100000 in
theorem raw_open8 {H : Type} {enc : TypeId × Value → H} {w : World} {v : Value} {d : DataW H} {p : List MemPlace} {spare : Nat → Bool} {held : Bool} {b0 : Nat}
    (hv : Value.okWide Tryd.prog w .any b0 38 v) (h : DataW.Trod enc Tryd.prog w 0 spare held 38 v d p) :
    ∃ (bv : Value) (B : List Bool) (A : Option Addr) (n cap : Nat) (D : Nat → Int × Int × Int) (A2 : Option Addr) (n2 cap2 : Nat) (D2 : Nat → Int), v = .agg #[bv, .slice A n cap, .slice A2 n2 cap2] ∧ BlsAt w bv B ∧ Tri8 w A n D ∧ Byt8 w A2 n2 D2 := by
  obtain ⟨v0, v1, v2, y0, y1, y2, n, rfl, _, _, h0, h1, h2⟩ := Go.Joins.open_agg3 Tryd.underlying38 (by kernel_rfl) (by kernel_rfl) hv h
  have hB : ∃ B, BlsAt w v0 B := by
    rcases rows_of8 Tryd.underlying28 (K := 1) (by kernel_rfl) (by decide) h0 with ⟨A, cap, rfl⟩ | ⟨b, o, n, cap, rfl, R⟩
    · exact ⟨[], A, cap, rfl, by simp, fun h => absurd h (by simp)⟩
    · have each : ∀ i, i < n → ∃ q : Bool, w.cell? ⟨b, o + i, none⟩ = some (.bool q) := by
        intro i hi
        obtain ⟨cs, hlen, hat, fuel, x, hx⟩ := R.at_ i hi
        match cs, hlen with
        | [c0], _ =>
          obtain ⟨q, e0, _⟩ := DataW.trod_bool Tryd.underlying4 hx
          simp only [List.cons.injEq, and_true] at e0
          subst e0
          have h0 := hat 0 (by omega)
          rw [Nat.mul_one, Nat.add_zero] at h0
          exact ⟨q, h0⟩
      obtain ⟨D, hD⟩ := choose_lt each
      refine ⟨(List.range n).map D, some ⟨b, o, none⟩, cap, by simp, by simpa using R.le, fun _ => ⟨b, o, rfl, R.lt, fun k hk => ?_⟩⟩
      have hk' : k < n := by simpa using hk
      rw [hD k hk']
      simp
  obtain ⟨B, hB⟩ := hB
  have hT : ∃ A n cap D, v1 = .slice A n cap ∧ Tri8 w A n D := by
    rcases rows_of8 Tryd.underlying35 (K := 3) (by kernel_rfl) (by decide) h1 with ⟨A, cap, rfl⟩ | ⟨b, o, len, cap, rfl, R⟩
    · exact ⟨A, 0, cap, fun _ => (0, 0, 0), rfl, fun h => absurd h (by omega), fun k hk => absurd hk (by omega)⟩
    · have each : ∀ i, i < len → ∃ q : Int × Int × Int, (w.cell? ⟨b, o + i * 3, none⟩ = some (.int .u8 q.1) ∧ w.cell? ⟨b, o + i * 3 + 1, none⟩ = some (.int .u8 q.2.1) ∧ w.cell? ⟨b, o + i * 3 + 2, none⟩ = some (.int .u8 q.2.2)) ∧
          (0 ≤ q.1 ∧ q.1 ≤ 255) ∧ (0 ≤ q.2.1 ∧ q.2.1 ≤ 255) ∧ 0 ≤ q.2.2 ∧ q.2.2 ≤ 255 := by
        intro i hi
        obtain ⟨cs, hlen, hat, fuel, x, hx⟩ := R.at_ i hi
        match cs, hlen with
        | [c0, c1, c2], _ =>
          obtain ⟨xs, m, _, _, _, hl, hg⟩ := DataW.trod_array Tryd.underlying50 hx
          have hc1 : Tryd.prog.cellsOf 5 = 1 := by kernel_rfl
          have g : ∀ i (hi : i < 3), ∃ y, DataW.trod enc Tryd.prog w 0 spare held m 5 (([c0, c1, c2].drop i).take 1) = some y := by
            intro i hi
            have h1 := hg i hi
            rw [hc1, Nat.mul_one, List.getElem?_eq_getElem (by omega)] at h1
            exact ⟨_, h1⟩
          obtain ⟨_, g0⟩ := g 0 (by omega)
          obtain ⟨_, g1⟩ := g 1 (by omega)
          obtain ⟨_, g2⟩ := g 2 (by omega)
          obtain ⟨n0, e0, f0⟩ := elem_int Tryd.underlying5 g0
          obtain ⟨n1, e1, f1⟩ := elem_int Tryd.underlying5 g1
          obtain ⟨n2, e2, f2⟩ := elem_int Tryd.underlying5 g2
          have e0' : [c0] = [Value.int .u8 n0] := e0
          have e1' : [c1] = [Value.int .u8 n1] := e1
          have e2' : [c2] = [Value.int .u8 n2] := e2
          simp only [List.cons.injEq, and_true] at e0' e1' e2'
          subst e0' e1' e2'
          exact ⟨(n0, n1, n2), ⟨hat 0 (by omega), hat 1 (by omega), hat 2 (by omega)⟩, wf_b8 f0, wf_b8 f1, wf_b8 f2⟩
      obtain ⟨D, hD⟩ := choose_lt each
      exact ⟨_, len, cap, D, rfl, fun _ => ⟨b, o, rfl, R.lt, fun k hk => (hD k hk).1⟩, fun k hk => (hD k hk).2⟩
  obtain ⟨A, len, cap, D, rfl, hT⟩ := hT
  have hY : ∃ A n cap D, v2 = .slice A n cap ∧ Byt8 w A n D := by
    rcases rows_of8 Tryd.underlying36 (K := 1) (by kernel_rfl) (by decide) h2 with ⟨A, cap, rfl⟩ | ⟨b, o, len, cap, rfl, R⟩
    · exact ⟨A, 0, cap, fun _ => 0, rfl, fun h => absurd h (by omega), fun k hk => absurd hk (by omega)⟩
    · have each : ∀ i, i < len → ∃ q : Int, w.cell? ⟨b, o + i, none⟩ = some (.int .u8 q) ∧ 0 ≤ q ∧ q ≤ 255 := by
        intro i hi
        obtain ⟨cs, hlen, hat, fuel, x, hx⟩ := R.at_ i hi
        match cs, hlen with
        | [c0], _ =>
          obtain ⟨n0, e0, f0⟩ := elem_int Tryd.underlying5 hx
          simp only [List.cons.injEq, and_true] at e0
          subst e0
          have h0 := hat 0 (by omega)
          rw [Nat.mul_one, Nat.add_zero] at h0
          exact ⟨n0, h0, wf_b8 f0⟩
      obtain ⟨D, hD⟩ := choose_lt each
      exact ⟨_, len, cap, D, rfl, fun _ => ⟨b, o, rfl, R.lt, fun k hk => (hD k hk).1⟩, fun k hk => (hD k hk).2⟩
  obtain ⟨A2, len2, cap2, D2, rfl, hY⟩ := hY
  exact ⟨v0, B, A, len, cap, D, A2, len2, cap2, D2, rfl, hB, hT, hY⟩
end Go.Proofs.YtgedcalplfnjmaaDoor
