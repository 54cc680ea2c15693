/-
  Arguments opened: places on a plane, two bytes, a case. Conditions: none.
-/
import Derived.Test.YtkgknbjcllcndaaGdM
import Derived.Test.YtkgknbjcllcndaaArgs
import Derived.Lib.SmallJoins
namespace Go.Proofs.Ytkgknbjcllcndaa
open Go.RowKit Go.ChangeShapes Go.WideShapes Go.Deep Go.Proofs.Ytkgknbjcllcndaa.GrM

section
variable {H : Type} {enc : TypeId × Value → H} {P : Program} {w : World} {spare : Nat → Bool} {held : Bool}
/-- Nothing, or a row whose elements read by their type: of one cell that reads as a slice. -/
theorem rows_of10 {t e : TypeId} {fuel : Nat} {v : Value} {x : DataW H × List MemPlace} {K : Nat} (ht : P.underlying t = some (.slice e)) (hc : P.cellsOf e = K) (hK : 0 < K)
    (hf : DataW.trod enc P w 0 spare held fuel t [v] = some x) :
    (∃ A cap, v = .slice A 0 cap ∧ (A = none → cap = 0)) ∨
    ∃ b o n cap, v = .slice (some ⟨b, o, none⟩) n cap ∧ RowAt w K b o n cap fun _ cs => ∃ fuel x, DataW.trod enc P w 0 spare held fuel e cs = some x := by
  subst hc
  rcases open_slice ht hf with ⟨h0, _⟩ | ⟨a', len, cap', m, k, D, Pl, hcs, _, hl, hm, hmm, _, hi⟩
  · simp only [List.cons.injEq, and_true] at h0
    exact Or.inl ⟨none, 0, h0, fun _ => rfl⟩
  · simp only [List.cons.injEq, and_true] at hcs
    subst hcs
    by_cases h0 : len = 0
    · subst h0
      exact Or.inl ⟨_, _, rfl, fun e => by cases e⟩
    · have hnm : len ≤ m := by rw [hmm]; split <;> omega
      have hspot : a'.spot = none := by
        obtain ⟨cs', hc, _⟩ := hi 0 (by omega)
        obtain ⟨_, hlen, hat⟩ := World.cells?_some hc
        have := hat 0 hK
        rw [List.getElem?_eq_getElem (by omega)] at this
        have := World.cell?_spot this
        unfold Addr.add at this
        split at this <;> simp_all
      obtain ⟨b, o, spot⟩ := a'
      have e0 : spot = none := hspot
      subst e0
      have hcell : ∀ i, i < len → ∃ cs : List Value, cs.length = P.cellsOf e ∧ (∀ j, j < P.cellsOf e → w.cell? ⟨b, o + i * P.cellsOf e + j, none⟩ = cs[j]?) ∧ ∃ fuel x, DataW.trod enc P w 0 spare held fuel e cs = some x := by
        intro i hin
        obtain ⟨cs', hc, ht'⟩ := hi i (by omega)
        obtain ⟨_, hlen, hat⟩ := World.cells?_some hc
        refine ⟨cs', hlen, fun j hj => ?_, _, _, ht'⟩
        rw [← hat j hj, add_lit, add_lit]
      refine Or.inr ⟨b, o, len, cap', rfl, by omega, hl, hm, ?_, hcell⟩
      obtain ⟨cs', hlen, hat, _⟩ := hcell 0 (by omega)
      have := hat 0 hK
      rw [List.getElem?_eq_getElem (by omega)] at this
      exact lt_of_cell this
end
theorem wf_n10 {k : IntKind} {n : Int} (h : (Lit.int k n).wf = true) : k.min ≤ n ∧ n ≤ k.max := by
  simpa [Lit.wf] using h
set_option maxRecDepth 100000 in
theorem nums_cells {H : Type} {enc : TypeId × Value → H} {w : World} {v : Value} {x : DataW H × List MemPlace} {fuel : Nat} {spare : Nat → Bool} {held : Bool} {t e : TypeId} {k : IntKind}
    (ht : Try.prog.underlying t = some (.slice e)) (he : Try.prog.underlying e = some (.int k)) (hc : Try.prog.cellsOf e = 1)
    (h : DataW.trod enc Try.prog w 0 spare held fuel t [v] = some x) : ∃ A n cap D, v = .slice A n cap ∧ NumAt k k.min k.max w A n D ∧ n ≤ 9223372036854775807 := by
  rcases rows_of10 ht hc (by decide) h with ⟨A, cap, rfl, _⟩ | ⟨b, o, n, cap, rfl, R⟩
  · exact ⟨A, 0, cap, fun _ => 0, rfl, ⟨fun h => absurd h (by omega), fun k hk => absurd hk (by omega)⟩, by omega⟩
  · have each : ∀ i, i < n → ∃ q : Int, w.cell? ⟨b, o + i, none⟩ = some (.int k q) ∧ k.min ≤ q ∧ q ≤ k.max := by
      intro i hi
      obtain ⟨cs, hlen, hat, fuel, x, hx⟩ := R.at_ i hi
      match cs, hlen with
      | [c0], _ =>
        obtain ⟨n0, e0, f0⟩ := elem_int he hx
        simp only [List.cons.injEq, and_true] at e0
        subst e0
        have h0 := hat 0 (by omega)
        rw [Nat.mul_one, Nat.add_zero] at h0
        exact ⟨n0, h0, wf_n10 f0⟩
    obtain ⟨D, hD⟩ := choose_lt each
    have hm := R.max
    have hl := R.le
    unfold maxLen at hm
    exact ⟨_, n, cap, D, rfl, ⟨fun _ => ⟨b, o, rfl, R.lt, fun k hk => (hD k hk).1⟩, fun k hk => (hD k hk).2⟩, by omega⟩
theorem cU8s : Try.prog.cellsOf 50 = 1 := by kernel_rfl
theorem cI8s : Try.prog.cellsOf 51 = 1 := by kernel_rfl
theorem cPlaces : Try.prog.cellsOf 53 = 3 := by kernel_rfl
theorem cCells : Try.prog.cellsOf 27 = 1 := by kernel_rfl
theorem cTwo : Try.prog.cellsOf 54 = 2 := by kernel_rfl
theorem cInt : Try.prog.cellsOf 3 = 1 := by kernel_rfl
set_option maxRecDepth 100000 in
theorem places_cells {H : Type} {enc : TypeId × Value → H} {w : World} {c0 c1 c2 : Value} {x : DataW H × List MemPlace} {fuel : Nat} {spare : Nat → Bool} {held : Bool}
    (h : DataW.trod enc Try.prog w 0 spare held fuel 53 [c0, c1, c2] = some x) :
    ∃ A1 A2 A3 n1 n2 n3 k1 k2 k3 D1 D2 D3, c0 = .slice A1 n1 k1 ∧ c1 = .slice A2 n2 k2 ∧ c2 = .slice A3 n3 k3 ∧ Plane w A1 A2 A3 n1 n2 n3 D1 D2 D3 := by
  obtain ⟨f0, y0, g0⟩ := elem_field Try.underlying53 h 0 _ rfl
  obtain ⟨f1, y1, g1⟩ := elem_field Try.underlying53 h 1 _ rfl
  obtain ⟨f2, y2, g2⟩ := elem_field Try.underlying53 h 2 _ rfl
  have h0 : DataW.trod enc Try.prog w 0 spare held f0 50 (([c0, c1, c2].drop 0).take (Try.prog.cellsOf 50)) = some y0 := g0
  have h1 : DataW.trod enc Try.prog w 0 spare held f1 50 (([c0, c1, c2].drop 1).take (Try.prog.cellsOf 50)) = some y1 := g1
  have h2 : DataW.trod enc Try.prog w 0 spare held f2 51 (([c0, c1, c2].drop 2).take (Try.prog.cellsOf 51)) = some y2 := g2
  rw [cU8s] at h0 h1
  rw [cI8s] at h2
  have e0 : DataW.trod enc Try.prog w 0 spare held f0 50 [c0] = some y0 := h0
  have e1 : DataW.trod enc Try.prog w 0 spare held f1 50 [c1] = some y1 := h1
  have e2 : DataW.trod enc Try.prog w 0 spare held f2 51 [c2] = some y2 := h2
  obtain ⟨A1, n1, k1, D1, rfl, N1, b1⟩ := nums_cells Try.underlying50 Try.underlying5 (by kernel_rfl) e0
  obtain ⟨A2, n2, k2, D2, rfl, N2, b2⟩ := nums_cells Try.underlying50 Try.underlying5 (by kernel_rfl) e1
  obtain ⟨A3, n3, k3, D3, rfl, N3, b3⟩ := nums_cells Try.underlying51 Try.underlying76 (by kernel_rfl) e2
  exact ⟨A1, A2, A3, n1, n2, n3, k1, k2, k3, D1, D2, D3, rfl, rfl, rfl, N1, N2, N3, b1, b2, b3⟩
set_option maxRecDepth 100000 in
theorem two_cells {H : Type} {enc : TypeId × Value → H} {w : World} {c0 c1 : Value} {x : DataW H × List MemPlace} {fuel : Nat} {spare : Nat → Bool} {held : Bool}
    (hf : DataW.trod enc Try.prog w 0 spare held fuel 54 [c0, c1] = some x) :
    ∃ a b : Int, c0 = .int .u8 a ∧ c1 = .int .u8 b ∧ (0 ≤ a ∧ a ≤ 255) ∧ (0 ≤ b ∧ b ≤ 255) := by
  obtain ⟨xs, m, _, _, _, hl, hg⟩ := DataW.trod_array Try.underlying54 hf
  have hc1 : Try.prog.cellsOf 5 = 1 := by kernel_rfl
  have g : ∀ i (hi : i < 2), ∃ y, DataW.trod enc Try.prog w 0 spare held m 5 (([c0, c1].drop i).take 1) = some y := by
    intro i hi
    have h1 := hg i hi
    rw [hc1, Nat.mul_one, List.getElem?_eq_getElem (by omega)] at h1
    exact ⟨_, h1⟩
  obtain ⟨_, g0⟩ := g 0 (by omega)
  obtain ⟨_, g1⟩ := g 1 (by omega)
  obtain ⟨n0, e0, f0⟩ := elem_int Try.underlying5 g0
  obtain ⟨n1, e1, f1⟩ := elem_int Try.underlying5 g1
  have e0' : [c0] = [Value.int .u8 n0] := e0
  have e1' : [c1] = [Value.int .u8 n1] := e1
  simp only [List.cons.injEq, and_true] at e0' e1'
  subst e0' e1'
  exact ⟨n0, n1, rfl, rfl, wf_n10 f0, wf_n10 f1⟩
set_option maxRecDepth 100000 in
theorem four_cells {H : Type} {enc : TypeId × Value → H} {w : World} {c0 c1 c2 c3 : Value} {x : DataW H × List MemPlace} {fuel : Nat} {spare : Nat → Bool} {held : Bool}
    (hf : DataW.trod enc Try.prog w 0 spare held fuel 38 [c0, c1, c2, c3] = some x) :
    ∃ a b c d : Int, c0 = .int .i64 a ∧ c1 = .int .i64 b ∧ c2 = .int .i64 c ∧ c3 = .int .i64 d := by
  obtain ⟨xs, m, _, _, _, hl, hg⟩ := DataW.trod_array Try.underlying38 hf
  have g : ∀ i (hi : i < 4), ∃ y, DataW.trod enc Try.prog w 0 spare held m 3 (([c0, c1, c2, c3].drop i).take 1) = some y := by
    intro i hi
    have h1 := hg i hi
    rw [cInt, Nat.mul_one, List.getElem?_eq_getElem (by omega)] at h1
    exact ⟨_, h1⟩
  obtain ⟨_, g0⟩ := g 0 (by omega)
  obtain ⟨_, g1⟩ := g 1 (by omega)
  obtain ⟨_, g2⟩ := g 2 (by omega)
  obtain ⟨_, g3⟩ := g 3 (by omega)
  obtain ⟨n0, e0, f0⟩ := elem_int Try.underlying3 g0
  obtain ⟨n1, e1, f1⟩ := elem_int Try.underlying3 g1
  obtain ⟨n2, e2, f2⟩ := elem_int Try.underlying3 g2
  obtain ⟨n3, e3, f3⟩ := elem_int Try.underlying3 g3
  have e0' : [c0] = [Value.int .i64 n0] := e0
  have e1' : [c1] = [Value.int .i64 n1] := e1
  have e2' : [c2] = [Value.int .i64 n2] := e2
  have e3' : [c3] = [Value.int .i64 n3] := e3
  simp only [List.cons.injEq, and_true] at e0' e1' e2' e3'
  exact ⟨n0, n1, n2, n3, e0', e1', e2', e3'⟩
/-- What a list of cells, cut to at most six, reads as. -/
def RawAt (w : World) (v : Value) : Prop := ∃ A n cap, v = .slice A n cap ∧ n ≤ cap ∧ n ≤ 9223372036854775807 ∧ (0 < n → ∃ b o, A = some ⟨b, o, none⟩) ∧ ∃ L, CelAt w (.slice A (min n 6) cap) L (min n 6)
theorem c4i : Try.prog.cellsOf 38 = 4 := by kernel_rfl
set_option maxRecDepth 100000 in
theorem cells_cells {H : Type} {enc : TypeId × Value → H} {w : World} {v : Value} {x : DataW H × List MemPlace} {fuel : Nat} {spare : Nat → Bool} {held : Bool}
    (h : DataW.trod enc Try.prog w 0 spare held fuel 27 [v] = some x) : RawAt w v := by
  rcases rows_of10 Try.underlying27 (K := 8) (by kernel_rfl) (by decide) h with ⟨A, cap, rfl, hA⟩ | ⟨b, o, n, cap, rfl, R⟩
  · exact ⟨A, 0, cap, rfl, by omega, by omega, fun h => absurd h (by omega), [], rfl, A, cap, rfl, ⟨by omega, hA⟩, fun h => absurd h (by omega)⟩
  · have each : ∀ i, i < n → ∃ q : Nat → Int, ∀ j, j < 8 → w.cell? ⟨b, o + i * 8 + j, none⟩ = some (.int .i64 (q j)) := by
      intro i hi
      obtain ⟨cs, hlen, hat, fuel, x, hx⟩ := R.at_ i hi
      have hq : ∀ j, j < 8 → ∃ q : Int, cs[j]? = some (.int .i64 q) := by
        match cs, hlen with
        | [c0, c1, c2, c3, c4, c5, c6, c7], _ =>
          obtain ⟨f0, y0, g0⟩ := elem_field Try.underlying40 hx 0 _ rfl
          obtain ⟨f1, y1, g1⟩ := elem_field Try.underlying40 hx 1 _ rfl
          have h0 : DataW.trod enc Try.prog w 0 spare held f0 38 (([c0, c1, c2, c3, c4, c5, c6, c7].drop 0).take (Try.prog.cellsOf 38)) = some y0 := g0
          have h1 : DataW.trod enc Try.prog w 0 spare held f1 38 (([c0, c1, c2, c3, c4, c5, c6, c7].drop 4).take (Try.prog.cellsOf 38)) = some y1 := g1
          rw [c4i] at h0 h1
          have e0 : DataW.trod enc Try.prog w 0 spare held f0 38 [c0, c1, c2, c3] = some y0 := h0
          have e1 : DataW.trod enc Try.prog w 0 spare held f1 38 [c4, c5, c6, c7] = some y1 := h1
          obtain ⟨a0, a1, a2, a3, rfl, rfl, rfl, rfl⟩ := four_cells e0
          obtain ⟨a4, a5, a6, a7, rfl, rfl, rfl, rfl⟩ := four_cells e1
          intro j hj
          match j, hj with
          | 0, _ => exact ⟨a0, rfl⟩
          | 1, _ => exact ⟨a1, rfl⟩
          | 2, _ => exact ⟨a2, rfl⟩
          | 3, _ => exact ⟨a3, rfl⟩
          | 4, _ => exact ⟨a4, rfl⟩
          | 5, _ => exact ⟨a5, rfl⟩
          | 6, _ => exact ⟨a6, rfl⟩
          | 7, _ => exact ⟨a7, rfl⟩
          | j + 8, h => omega
      obtain ⟨q, hq⟩ := choose_lt hq
      exact ⟨q, fun j hj => by rw [hat j hj]; exact hq j hj⟩
    obtain ⟨D, hD⟩ := choose_lt each
    have hm := R.max
    have hl := R.le
    unfold maxLen at hm
    refine ⟨_, n, cap, rfl, hl, by omega, fun _ => ⟨b, o, rfl⟩, (List.range (min n 6 * 8)).map (fun t => D (t / 8) (t % 8)), by simp, _, cap, rfl, ⟨by omega, fun e => by cases e⟩, fun _ => ⟨b, o, rfl, R.lt, fun j hj => ?_⟩⟩
    have h1 := hD (j / 8) (by omega) (j % 8) (by omega)
    rw [show o + j / 8 * 8 + j % 8 = o + j by omega] at h1
    rw [h1]
    simp [List.getD_eq_getElem?_getD, hj]
theorem array3 {α : Type} {cs : Array α} (h : cs.size = 3) : ∃ c0 c1 c2, cs = #[c0, c1, c2] := by
  obtain ⟨l⟩ := cs
  match l, h with
  | [c0, c1, c2], _ => exact ⟨c0, c1, c2, rfl⟩
theorem array7 {α : Type} {cs : Array α} (h : cs.size = 7) : ∃ c0 c1 c2 c3 c4 c5 c6, cs = #[c0, c1, c2, c3, c4, c5, c6] := by
  obtain ⟨l⟩ := cs
  match l, h with
  | [c0, c1, c2, c3, c4, c5, c6], _ => exact ⟨c0, c1, c2, c3, c4, c5, c6, rfl⟩
set_option maxRecDepth 100000 in
theorem places_open {H : Type} {enc : TypeId × Value → H} {w : World} {v : Value} {d : DataW H} {p : List MemPlace} {spare : Nat → Bool} {held : Bool} {b0 : Nat}
    (hv : Value.okWide Try.prog w .any b0 53 v) (h : DataW.Trod enc Try.prog w 0 spare held 53 v d p) :
    ∃ A1 A2 A3 n1 n2 n3 k1 k2 k3 D1 D2 D3, v = .agg #[.slice A1 n1 k1, .slice A2 n2 k2, .slice A3 n3 k3] ∧ Plane w A1 A2 A3 n1 n2 n3 D1 D2 D3 := by
  obtain ⟨cs, rfl, hsz⟩ := okWide_struct Try.underlying53 hv
  obtain ⟨c0, c1, c2, rfl⟩ := array3 (hsz.trans cPlaces)
  obtain ⟨fuel, hf⟩ := h
  obtain ⟨A1, A2, A3, n1, n2, n3, k1, k2, k3, D1, D2, D3, rfl, rfl, rfl, hP⟩ := places_cells (fuel := fuel) (c0 := c0) (c1 := c1) (c2 := c2) hf
  exact ⟨A1, A2, A3, n1, n2, n3, k1, k2, k3, D1, D2, D3, rfl, hP⟩
set_option maxRecDepth 100000 in
theorem two_open {H : Type} {enc : TypeId × Value → H} {w : World} {v : Value} {d : DataW H} {p : List MemPlace} {spare : Nat → Bool} {held : Bool} {b0 : Nat}
    (hv : Value.okWide Try.prog w .any b0 54 v) (h : DataW.Trod enc Try.prog w 0 spare held 54 v d p) :
    ∃ a b : Int, v = .agg #[.int .u8 a, .int .u8 b] ∧ (0 ≤ a ∧ a ≤ 255) ∧ (0 ≤ b ∧ b ≤ 255) := by
  have hv2 : ∃ cs : Array Value, v = .agg cs ∧ cs.size = 2 := by
    have hu := Try.underlying54
    simp only [Value.okWide, hu] at hv
    obtain ⟨cs, h1, h2, _⟩ := hv
    exact ⟨cs, h1, by rw [h2, cTwo]⟩
  obtain ⟨cs, rfl, hs⟩ := hv2
  obtain ⟨c0, c1, rfl⟩ := Go.Joins.array2 hs
  obtain ⟨fuel, hf⟩ := h
  obtain ⟨a, b, rfl, rfl, ha, hb⟩ := two_cells (fuel := fuel) (c0 := c0) (c1 := c1) hf
  exact ⟨a, b, rfl, ha, hb⟩
theorem cCase : Try.prog.cellsOf 56 = 7 := by kernel_rfl
set_option maxRecDepth 100000 in
theorem case_open10 {H : Type} {enc : TypeId × Value → H} {w : World} {v : Value} {d : DataW H} {p : List MemPlace} {spare : Nat → Bool} {held : Bool} {b0 : Nat}
    (hv : Value.okWide Try.prog w .any b0 56 v) (h : DataW.Trod enc Try.prog w 0 spare held 56 v d p) :
    ∃ A1 A2 A3 n1 n2 n3 k1 k2 k3 D1 D2 D3 rv, ∃ a b x : Int, v = .agg #[.slice A1 n1 k1, .slice A2 n2 k2, .slice A3 n3 k3, rv, .int .u8 a, .int .u8 b, .int .i64 x] ∧ Plane w A1 A2 A3 n1 n2 n3 D1 D2 D3 ∧ RawAt w rv ∧ (0 ≤ a ∧ a ≤ 255) ∧ (0 ≤ b ∧ b ≤ 255) := by
  obtain ⟨cs, rfl, hsz⟩ := okWide_struct Try.underlying56 hv
  obtain ⟨c0, c1, c2, c3, c4, c5, c6, rfl⟩ := array7 (hsz.trans cCase)
  obtain ⟨fuel, hf⟩ := h
  obtain ⟨f0, y0, g0⟩ := elem_field Try.underlying56 (cs := [c0, c1, c2, c3, c4, c5, c6]) hf 0 _ rfl
  obtain ⟨f1, y1, g1⟩ := elem_field Try.underlying56 (cs := [c0, c1, c2, c3, c4, c5, c6]) hf 1 _ rfl
  obtain ⟨f2, y2, g2⟩ := elem_field Try.underlying56 (cs := [c0, c1, c2, c3, c4, c5, c6]) hf 2 _ rfl
  obtain ⟨f3, y3, g3⟩ := elem_field Try.underlying56 (cs := [c0, c1, c2, c3, c4, c5, c6]) hf 3 _ rfl
  have h0 : DataW.trod enc Try.prog w 0 spare held f0 53 (([c0, c1, c2, c3, c4, c5, c6].drop 0).take (Try.prog.cellsOf 53)) = some y0 := g0
  have h1 : DataW.trod enc Try.prog w 0 spare held f1 27 (([c0, c1, c2, c3, c4, c5, c6].drop 3).take (Try.prog.cellsOf 27)) = some y1 := g1
  have h2 : DataW.trod enc Try.prog w 0 spare held f2 54 (([c0, c1, c2, c3, c4, c5, c6].drop 4).take (Try.prog.cellsOf 54)) = some y2 := g2
  have h3 : DataW.trod enc Try.prog w 0 spare held f3 3 (([c0, c1, c2, c3, c4, c5, c6].drop 6).take (Try.prog.cellsOf 3)) = some y3 := g3
  rw [cPlaces] at h0
  rw [cCells] at h1
  rw [cTwo] at h2
  rw [cInt] at h3
  have e0 : DataW.trod enc Try.prog w 0 spare held f0 53 [c0, c1, c2] = some y0 := h0
  have e1 : DataW.trod enc Try.prog w 0 spare held f1 27 [c3] = some y1 := h1
  have e2 : DataW.trod enc Try.prog w 0 spare held f2 54 [c4, c5] = some y2 := h2
  have e3 : DataW.trod enc Try.prog w 0 spare held f3 3 [c6] = some y3 := h3
  obtain ⟨A1, A2, A3, n1, n2, n3, k1, k2, k3, D1, D2, D3, rfl, rfl, rfl, hP⟩ := places_cells e0
  have hR := cells_cells e1
  obtain ⟨a, b, rfl, rfl, ha, hb⟩ := two_cells e2
  obtain ⟨x, ex, _⟩ := elem_int Try.underlying3 e3
  simp only [List.cons.injEq, and_true] at ex
  subst ex
  exact ⟨A1, A2, A3, n1, n2, n3, k1, k2, k3, D1, D2, D3, c3, a, b, x, rfl, hP, hR, ha, hb⟩
end Go.Proofs.Ytkgknbjcllcndaa
