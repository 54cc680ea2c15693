/-
  What the reference's Turned answers. Conditions: at most 100000 cells.
  The reference's Make with at most 12 cells; a grid of what it makes. Conditions: none.
  Arguments opened: places on a plane, two bytes, a case. Conditions: none.
-/
import Derived.Test.YtkakeakdgidigaaDoorNzRa
import Derived.LoopN
import Derived.Test.YtkakeakdgidigaaDoorVzD
import Derived.Test.YtkakeakdgidigaaDoorVzQ0
import Derived.Test.YtkakeakdgidigaaDoorArgs
import Derived.Lib.SmallJoins
namespace Go.Proofs.YtkakeakdgidigaaDoor
open Go.RowKit Go.Proofs.YtkakeakdgidigaaDoor.GrM

theorem turn_cell (L : List Int) (k : Nat) : turnG L (k + 1) = turnG L k ++ [nxG L k 3, nxG L k 0, nxG L k 1, nxG L k 2, owG L k 3, owG L k 0, owG L k 1, owG L k 2] := rfl
def RtG (L : List Int) (n : Nat) (w wr : World) (lv iv : Value) : Prop := ∃ k : Nat, iv = .int .i64 k ∧ k ≤ n ∧ OwnG wr w.heap.size lv (turnG L k) k ∧ Below w.heap.size w wr

end Go.Proofs.YtkakeakdgidigaaDoor

namespace Go.Proofs.YtkakeakdgidigaaDoor
open Go.RowKit Go.Proofs.YtkakeakdgidigaaDoor.GrM

theorem crossed : CrossSpec := fun pv lv P L n i x w hP hL hp hi hx hn hr => refCrossed pv lv P L n i x w hP hL hp hi hx hn hr
theorem NumAt.below {kd : IntKind} {lo hi : Int} {w w' : World} {A : Option Addr} {n : Nat} {D : Nat → Int} (h : NumAt kd lo hi w A n D) (b : Below w.heap.size w w') : NumAt kd lo hi w' A n D := by
  refine ⟨fun h0 => ?_, h.r⟩
  obtain ⟨q, o, e, hq, hc⟩ := h.at_ h0
  exact ⟨q, o, e, Nat.lt_of_lt_of_le hq b.size, fun k hk => (b.cell (p := ⟨q, o + k, none⟩) hq).trans (hc k hk)⟩
/-- A plane's argument: three slices of numbers. -/
structure Plane (w : World) (A1 A2 A3 : Option Addr) (n1 n2 n3 : Nat) (D1 D2 D3 : Nat → Int) : Prop where
  h1 : NumAt .u8 0 255 w A1 n1 D1
  h2 : NumAt .u8 0 255 w A2 n2 D2
  h3 : NumAt .i8 (-128) 127 w A3 n3 D3
  b1 : n1 ≤ 9223372036854775807
  b2 : n2 ≤ 9223372036854775807
  b3 : n3 ≤ 9223372036854775807
theorem Plane.below {w w' : World} {A1 A2 A3 : Option Addr} {n1 n2 n3 : Nat} {D1 D2 D3 : Nat → Int} (h : Plane w A1 A2 A3 n1 n2 n3 D1 D2 D3) (b : Below w.heap.size w w') : Plane w' A1 A2 A3 n1 n2 n3 D1 D2 D3 :=
  ⟨h.h1.below b, h.h2.below b, h.h3.below b, h.b1, h.b2, h.b3⟩
def Mk12 (w : World) (e : Ending) (w' : World) : Prop :=
  ∃ (N : Nat) (L : List Int) (A : Option Addr) (c : Nat) (pv : Value), e = .returned (.tuple #[.slice A N c, pv]) ∧ OwnG w' w.heap.size (.slice A N c) L N ∧ GoodG L N ∧ N ≤ 12 ∧ Below w.heap.size w w'
theorem make12 {A1 A2 A3 : Option Addr} {n1 n2 n3 : Nat} (c1 c2 c3 : Nat) {D1 D2 D3 : Nat → Int} {w : World} (h : Plane w A1 A2 A3 n1 n2 n3 D1 D2 D3) :
    Calls Tryd.prog 4 #[.agg #[.slice A1 n1 c1, .slice A2 n2 c2, .slice A3 n3 c3], .int .i64 12] w (Mk12 w) := by
  have hm := refMakeG crossed A1 A2 A3 n1 n2 n3 c1 c2 c3 12 D1 D2 D3 w h.h1 h.h2 h.h3 h.b1 h.b2 h.b3 (by decide)
  refine hm.mono ?_
  rintro e w' ⟨⟨P, L, lv, pv, t, rfl, o1, o2, ap, mk, hP⟩, b⟩
  obtain ⟨ao, co, rfl⟩ := o1.form
  exact ⟨P.length, L, ao, co, pv, rfl, o1, mk.good, hP, b⟩
theorem own_at {w : World} {B n c : Nat} {A : Option Addr} {L : List Int} (h : OwnG w B (.slice A n c) L n) (h0 : 0 < n) : ∃ g, A = some ⟨g, 0, none⟩ := by
  obtain ⟨g, cap, hv, _⟩ := ownsRow_form h h0
  simp only [Value.slice.injEq, true_and] at hv
  exact ⟨g, hv.1⟩
theorem good_chk {L : List Int} {n : Nat} (h : GoodG L n) (hn : n ≤ 4096) : chkG L n = 0 := chk_good.2 ⟨hn, h⟩
end Go.Proofs.YtkakeakdgidigaaDoor

namespace Go.Proofs.YtkakeakdgidigaaDoor
open Go.RowKit Go.ChangeShapes Go.WideShapes Go.Deep Go.Proofs.YtkakeakdgidigaaDoor.GrM

section
variable {H : Type} {enc : TypeId × Value → H} {P : Program} {w : World} {spare : Nat → Bool} {held : Bool}
/-- Nothing, or a row whose elements read by their type: of one cell that reads as a slice. -/
theorem rows_of10 {t e : TypeId} {fuel : Nat} {v : Value} {x : DataW H × List MemPlace} {K : Nat} (ht : P.underlying t = some (.slice e)) (hc : P.cellsOf e = K) (hK : 0 < K)
    (hf : DataW.trod enc P w 0 spare held fuel t [v] = some x) :
    (∃ A cap, v = .slice A 0 cap ∧ (A = none → cap = 0)) ∨
    ∃ b o n cap, v = .slice (some ⟨b, o, none⟩) n cap ∧ RowAt w K b o n cap fun _ cs => ∃ fuel x, DataW.trod enc P w 0 spare held fuel e cs = some x := by
  subst hc
  rcases open_slice ht hf with ⟨h0, _⟩ | ⟨a', len, cap', m, k, D, Pl, hcs, _, hl, hm, hmm, _, hi⟩
  · simp only [List.cons.injEq, and_true] at h0
    exact Or.inl ⟨none, 0, h0, fun _ => rfl⟩
  · simp only [List.cons.injEq, and_true] at hcs
    subst hcs
    by_cases h0 : len = 0
    · subst h0
      exact Or.inl ⟨_, _, rfl, fun e => by cases e⟩
    · have hnm : len ≤ m := by rw [hmm]; split <;> omega
      have hspot : a'.spot = none := by
        obtain ⟨cs', hc, _⟩ := hi 0 (by omega)
        obtain ⟨_, hlen, hat⟩ := World.cells?_some hc
        have := hat 0 hK
        rw [List.getElem?_eq_getElem (by omega)] at this
        have := World.cell?_spot this
        unfold Addr.add at this
        split at this <;> simp_all
      obtain ⟨b, o, spot⟩ := a'
      have e0 : spot = none := hspot
      subst e0
      have hcell : ∀ i, i < len → ∃ cs : List Value, cs.length = P.cellsOf e ∧ (∀ j, j < P.cellsOf e → w.cell? ⟨b, o + i * P.cellsOf e + j, none⟩ = cs[j]?) ∧ ∃ fuel x, DataW.trod enc P w 0 spare held fuel e cs = some x := by
        intro i hin
        obtain ⟨cs', hc, ht'⟩ := hi i (by omega)
        obtain ⟨_, hlen, hat⟩ := World.cells?_some hc
        refine ⟨cs', hlen, fun j hj => ?_, _, _, ht'⟩
        rw [← hat j hj, add_lit, add_lit]
      refine Or.inr ⟨b, o, len, cap', rfl, by omega, hl, hm, ?_, hcell⟩
      obtain ⟨cs', hlen, hat, _⟩ := hcell 0 (by omega)
      have := hat 0 hK
      rw [List.getElem?_eq_getElem (by omega)] at this
      exact lt_of_cell this
end
theorem wf_n10 {k : IntKind} {n : Int} (h : (Lit.int k n).wf = true) : k.min ≤ n ∧ n ≤ k.max := by
  simpa [Lit.wf] using h
set_option maxRecDepth 100000 in
theorem nums_cells {H : Type} {enc : TypeId × Value → H} {w : World} {v : Value} {x : DataW H × List MemPlace} {fuel : Nat} {spare : Nat → Bool} {held : Bool} {t e : TypeId} {k : IntKind}
    (ht : Tryd.prog.underlying t = some (.slice e)) (he : Tryd.prog.underlying e = some (.int k)) (hc : Tryd.prog.cellsOf e = 1)
    (h : DataW.trod enc Tryd.prog w 0 spare held fuel t [v] = some x) : ∃ A n cap D, v = .slice A n cap ∧ NumAt k k.min k.max w A n D ∧ n ≤ 9223372036854775807 := by
  rcases rows_of10 ht hc (by decide) h with ⟨A, cap, rfl, _⟩ | ⟨b, o, n, cap, rfl, R⟩
  · exact ⟨A, 0, cap, fun _ => 0, rfl, ⟨fun h => absurd h (by omega), fun k hk => absurd hk (by omega)⟩, by omega⟩
  · have each : ∀ i, i < n → ∃ q : Int, w.cell? ⟨b, o + i, none⟩ = some (.int k q) ∧ k.min ≤ q ∧ q ≤ k.max := by
      intro i hi
      obtain ⟨cs, hlen, hat, fuel, x, hx⟩ := R.at_ i hi
      match cs, hlen with
      | [c0], _ =>
        obtain ⟨n0, e0, f0⟩ := elem_int he hx
        simp only [List.cons.injEq, and_true] at e0
        subst e0
        have h0 := hat 0 (by omega)
        rw [Nat.mul_one, Nat.add_zero] at h0
        exact ⟨n0, h0, wf_n10 f0⟩
    obtain ⟨D, hD⟩ := choose_lt each
    have hm := R.max
    have hl := R.le
    unfold maxLen at hm
    exact ⟨_, n, cap, D, rfl, ⟨fun _ => ⟨b, o, rfl, R.lt, fun k hk => (hD k hk).1⟩, fun k hk => (hD k hk).2⟩, by omega⟩
theorem cU8s : Tryd.prog.cellsOf 22 = 1 := by kernel_rfl
theorem cI8s : Tryd.prog.cellsOf 23 = 1 := by kernel_rfl
theorem cPlaces : Tryd.prog.cellsOf 25 = 3 := by kernel_rfl
theorem cCells : Tryd.prog.cellsOf 26 = 1 := by kernel_rfl

theorem cInt : Tryd.prog.cellsOf 3 = 1 := by kernel_rfl
set_option maxRecDepth 100000 in
theorem places_cells {H : Type} {enc : TypeId × Value → H} {w : World} {c0 c1 c2 : Value} {x : DataW H × List MemPlace} {fuel : Nat} {spare : Nat → Bool} {held : Bool}
    (h : DataW.trod enc Tryd.prog w 0 spare held fuel 25 [c0, c1, c2] = some x) :
    ∃ A1 A2 A3 n1 n2 n3 k1 k2 k3 D1 D2 D3, c0 = .slice A1 n1 k1 ∧ c1 = .slice A2 n2 k2 ∧ c2 = .slice A3 n3 k3 ∧ Plane w A1 A2 A3 n1 n2 n3 D1 D2 D3 := by
  obtain ⟨f0, y0, g0⟩ := elem_field Tryd.underlying25 h 0 _ rfl
  obtain ⟨f1, y1, g1⟩ := elem_field Tryd.underlying25 h 1 _ rfl
  obtain ⟨f2, y2, g2⟩ := elem_field Tryd.underlying25 h 2 _ rfl
  have h0 : DataW.trod enc Tryd.prog w 0 spare held f0 22 (([c0, c1, c2].drop 0).take (Tryd.prog.cellsOf 22)) = some y0 := g0
  have h1 : DataW.trod enc Tryd.prog w 0 spare held f1 22 (([c0, c1, c2].drop 1).take (Tryd.prog.cellsOf 22)) = some y1 := g1
  have h2 : DataW.trod enc Tryd.prog w 0 spare held f2 23 (([c0, c1, c2].drop 2).take (Tryd.prog.cellsOf 23)) = some y2 := g2
  rw [cU8s] at h0 h1
  rw [cI8s] at h2
  have e0 : DataW.trod enc Tryd.prog w 0 spare held f0 22 [c0] = some y0 := h0
  have e1 : DataW.trod enc Tryd.prog w 0 spare held f1 22 [c1] = some y1 := h1
  have e2 : DataW.trod enc Tryd.prog w 0 spare held f2 23 [c2] = some y2 := h2
  obtain ⟨A1, n1, k1, D1, rfl, N1, b1⟩ := nums_cells Tryd.underlying22 Tryd.underlying5 (by kernel_rfl) e0
  obtain ⟨A2, n2, k2, D2, rfl, N2, b2⟩ := nums_cells Tryd.underlying22 Tryd.underlying5 (by kernel_rfl) e1
  obtain ⟨A3, n3, k3, D3, rfl, N3, b3⟩ := nums_cells Tryd.underlying23 Tryd.underlying50 (by kernel_rfl) e2
  exact ⟨A1, A2, A3, n1, n2, n3, k1, k2, k3, D1, D2, D3, rfl, rfl, rfl, N1, N2, N3, b1, b2, b3⟩

set_option maxRecDepth 100000 in
theorem four_cellsG {H : Type} {enc : TypeId × Value → H} {w : World} {c0 c1 c2 c3 : Value} {x : DataW H × List MemPlace} {fuel : Nat} {spare : Nat → Bool} {held : Bool}
    (hf : DataW.trod enc Tryd.prog w 0 spare held fuel 71 [c0, c1, c2, c3] = some x) :
    ∃ a b c d : Int, c0 = .int .i64 a ∧ c1 = .int .i64 b ∧ c2 = .int .i64 c ∧ c3 = .int .i64 d := by
  obtain ⟨xs, m, _, _, _, hl, hg⟩ := DataW.trod_array Tryd.underlying71 hf
  have g : ∀ i (hi : i < 4), ∃ y, DataW.trod enc Tryd.prog w 0 spare held m 3 (([c0, c1, c2, c3].drop i).take 1) = some y := by
    intro i hi
    have h1 := hg i hi
    rw [cInt, Nat.mul_one, List.getElem?_eq_getElem (by omega)] at h1
    exact ⟨_, h1⟩
  obtain ⟨_, g0⟩ := g 0 (by omega)
  obtain ⟨_, g1⟩ := g 1 (by omega)
  obtain ⟨_, g2⟩ := g 2 (by omega)
  obtain ⟨_, g3⟩ := g 3 (by omega)
  obtain ⟨n0, e0, f0⟩ := elem_int Tryd.underlying3 g0
  obtain ⟨n1, e1, f1⟩ := elem_int Tryd.underlying3 g1
  obtain ⟨n2, e2, f2⟩ := elem_int Tryd.underlying3 g2
  obtain ⟨n3, e3, f3⟩ := elem_int Tryd.underlying3 g3
  have e0' : [c0] = [Value.int .i64 n0] := e0
  have e1' : [c1] = [Value.int .i64 n1] := e1
  have e2' : [c2] = [Value.int .i64 n2] := e2
  have e3' : [c3] = [Value.int .i64 n3] := e3
  simp only [List.cons.injEq, and_true] at e0' e1' e2' e3'
  exact ⟨n0, n1, n2, n3, e0', e1', e2', e3'⟩
/-- What a list of cells, cut to at most six, reads as. -/
def RawAt (w : World) (v : Value) : Prop := ∃ A n cap, v = .slice A n cap ∧ n ≤ cap ∧ n ≤ 9223372036854775807 ∧ (0 < n → ∃ b o, A = some ⟨b, o, none⟩) ∧ ∃ L, CelAt w (.slice A (min n 6) cap) L (min n 6)
theorem c4i : Tryd.prog.cellsOf 71 = 4 := by kernel_rfl
set_option maxRecDepth 100000 in
theorem cells_cells {H : Type} {enc : TypeId × Value → H} {w : World} {v : Value} {x : DataW H × List MemPlace} {fuel : Nat} {spare : Nat → Bool} {held : Bool}
    (h : DataW.trod enc Tryd.prog w 0 spare held fuel 26 [v] = some x) : RawAt w v := by
  rcases rows_of10 Tryd.underlying26 (K := 8) (by kernel_rfl) (by decide) h with ⟨A, cap, rfl, hA⟩ | ⟨b, o, n, cap, rfl, R⟩
  · exact ⟨A, 0, cap, rfl, by omega, by omega, fun h => absurd h (by omega), [], rfl, A, cap, rfl, ⟨by omega, hA⟩, fun h => absurd h (by omega)⟩
  · have each : ∀ i, i < n → ∃ q : Nat → Int, ∀ j, j < 8 → w.cell? ⟨b, o + i * 8 + j, none⟩ = some (.int .i64 (q j)) := by
      intro i hi
      obtain ⟨cs, hlen, hat, fuel, x, hx⟩ := R.at_ i hi
      have hq : ∀ j, j < 8 → ∃ q : Int, cs[j]? = some (.int .i64 q) := by
        match cs, hlen with
        | [c0, c1, c2, c3, c4, c5, c6, c7], _ =>
          obtain ⟨f0, y0, g0⟩ := elem_field Tryd.underlying73 hx 0 _ rfl
          obtain ⟨f1, y1, g1⟩ := elem_field Tryd.underlying73 hx 1 _ rfl
          have h0 : DataW.trod enc Tryd.prog w 0 spare held f0 71 (([c0, c1, c2, c3, c4, c5, c6, c7].drop 0).take (Tryd.prog.cellsOf 71)) = some y0 := g0
          have h1 : DataW.trod enc Tryd.prog w 0 spare held f1 71 (([c0, c1, c2, c3, c4, c5, c6, c7].drop 4).take (Tryd.prog.cellsOf 71)) = some y1 := g1
          rw [c4i] at h0 h1
          have e0 : DataW.trod enc Tryd.prog w 0 spare held f0 71 [c0, c1, c2, c3] = some y0 := h0
          have e1 : DataW.trod enc Tryd.prog w 0 spare held f1 71 [c4, c5, c6, c7] = some y1 := h1
          obtain ⟨a0, a1, a2, a3, rfl, rfl, rfl, rfl⟩ := four_cellsG e0
          obtain ⟨a4, a5, a6, a7, rfl, rfl, rfl, rfl⟩ := four_cellsG e1
          intro j hj
          match j, hj with
          | 0, _ => exact ⟨a0, rfl⟩
          | 1, _ => exact ⟨a1, rfl⟩
          | 2, _ => exact ⟨a2, rfl⟩
          | 3, _ => exact ⟨a3, rfl⟩
          | 4, _ => exact ⟨a4, rfl⟩
          | 5, _ => exact ⟨a5, rfl⟩
          | 6, _ => exact ⟨a6, rfl⟩
          | 7, _ => exact ⟨a7, rfl⟩
          | j + 8, h => omega
      obtain ⟨q, hq⟩ := choose_lt hq
      exact ⟨q, fun j hj => by rw [hat j hj]; exact hq j hj⟩
    obtain ⟨D, hD⟩ := choose_lt each
    have hm := R.max
    have hl := R.le
    unfold maxLen at hm
    refine ⟨_, n, cap, rfl, hl, by omega, fun _ => ⟨b, o, rfl⟩, (List.range (min n 6 * 8)).map (fun t => D (t / 8) (t % 8)), by simp, _, cap, rfl, ⟨by omega, fun e => by cases e⟩, fun _ => ⟨b, o, rfl, R.lt, fun j hj => ?_⟩⟩
    have h1 := hD (j / 8) (by omega) (j % 8) (by omega)
    rw [show o + j / 8 * 8 + j % 8 = o + j by omega] at h1
    rw [h1]
    simp [List.getD_eq_getElem?_getD, hj]
theorem array3 {α : Type} {cs : Array α} (h : cs.size = 3) : ∃ c0 c1 c2, cs = #[c0, c1, c2] := by
  obtain ⟨l⟩ := cs
  match l, h with
  | [c0, c1, c2], _ => exact ⟨c0, c1, c2, rfl⟩
theorem array7 {α : Type} {cs : Array α} (h : cs.size = 7) : ∃ c0 c1 c2 c3 c4 c5 c6, cs = #[c0, c1, c2, c3, c4, c5, c6] := by
  obtain ⟨l⟩ := cs
  match l, h with
  | [c0, c1, c2, c3, c4, c5, c6], _ => exact ⟨c0, c1, c2, c3, c4, c5, c6, rfl⟩
set_option maxRecDepth 100000 in
theorem places_open {H : Type} {enc : TypeId × Value → H} {w : World} {v : Value} {d : DataW H} {p : List MemPlace} {spare : Nat → Bool} {held : Bool} {b0 : Nat}
    (hv : Value.okWide Tryd.prog w .any b0 25 v) (h : DataW.Trod enc Tryd.prog w 0 spare held 25 v d p) :
    ∃ A1 A2 A3 n1 n2 n3 k1 k2 k3 D1 D2 D3, v = .agg #[.slice A1 n1 k1, .slice A2 n2 k2, .slice A3 n3 k3] ∧ Plane w A1 A2 A3 n1 n2 n3 D1 D2 D3 := by
  obtain ⟨cs, rfl, hsz⟩ := okWide_struct Tryd.underlying25 hv
  obtain ⟨c0, c1, c2, rfl⟩ := array3 (hsz.trans cPlaces)
  obtain ⟨fuel, hf⟩ := h
  obtain ⟨A1, A2, A3, n1, n2, n3, k1, k2, k3, D1, D2, D3, rfl, rfl, rfl, hP⟩ := places_cells (fuel := fuel) (c0 := c0) (c1 := c1) (c2 := c2) hf
  exact ⟨A1, A2, A3, n1, n2, n3, k1, k2, k3, D1, D2, D3, rfl, hP⟩



end Go.Proofs.YtkakeakdgidigaaDoor
