/-
  Arguments that are structs of the law's own, opened. Conditions: none.
-/
import Derived.Test.YtdpacaomkahgfaaGreatDoorCrLa
import Derived.Lib.SmallJoins
namespace Go.Proofs.YtdpacaomkahgfaaGreatDoor
open Go.RowKit Go.ChangeShapes Go.WideShapes Go.Deep

set_option maxRecDepth 100000 in
theorem raw_cells {H : Type} {enc : TypeId × Value → H} {w : World} {c0 c1 : Value} {x : DataW H × List MemPlace} {n : Nat} {spare : Nat → Bool} {held : Bool}
    (h : DataW.trod enc Tryz.prog w 0 spare held n 24 [c0, c1] = some x) :
    ∃ (N : Int) (A : Option Addr) (len cap : Nat) (D : Nat → Int × Int × Int), c0 = .int .u8 N ∧ c1 = .slice A len cap ∧ 0 ≤ N ∧ N ≤ 255 ∧ TriAt w A len D := by
  obtain ⟨y0, y1, n, _, _, h0, h1⟩ := trod_struct2 Tryz.underlying24 h
  have h0 : DataW.trod enc Tryz.prog w 0 spare held n 5 [c0] = some y0 := by
    rw [show Tryz.prog.cellsOf 5 = 1 by kernel_rfl] at h0
    exact h0
  have h1 : DataW.trod enc Tryz.prog w 0 spare held n 22 [c1] = some y1 := by
    rw [show Tryz.prog.cellsOf 22 = 1 by kernel_rfl] at h1
    exact h1
  obtain ⟨N, e0, _, f0⟩ := DataW.trod_int Tryz.underlying5 h0
  simp only [List.cons.injEq, and_true] at e0
  subst e0
  have hN := wf_u8 f0
  rcases rows_of Tryz.underlying22 (K := 3) (by kernel_rfl) (by decide) h1 with ⟨A, cap, rfl⟩ | ⟨b, o, len, cap, rfl, R⟩
  · exact ⟨N, A, 0, cap, fun _ => (0, 0, 0), rfl, rfl, hN.1, hN.2, fun h => absurd h (by omega), fun k hk => absurd hk (by omega)⟩
  · have each : ∀ i, i < len → ∃ q : Int × Int × Int, (w.cell? ⟨b, o + i * 3, none⟩ = some (.int .u8 q.1) ∧ w.cell? ⟨b, o + i * 3 + 1, none⟩ = some (.int .u8 q.2.1) ∧ w.cell? ⟨b, o + i * 3 + 2, none⟩ = some (.int .u8 q.2.2)) ∧
        (0 ≤ q.1 ∧ q.1 ≤ 255) ∧ (0 ≤ q.2.1 ∧ q.2.1 ≤ 255) ∧ 0 ≤ q.2.2 ∧ q.2.2 ≤ 255 := by
      intro i hi
      obtain ⟨cs, hlen, hat, fuel, x, hx⟩ := R.at_ i hi
      match cs, hlen with
      | [c0, c1, c2], _ =>
        obtain ⟨xs, m, _, _, _, hl, hg⟩ := DataW.trod_array Tryz.underlying63 hx
        have hc1 : Tryz.prog.cellsOf 5 = 1 := by kernel_rfl
        have g : ∀ i (hi : i < 3), ∃ y, DataW.trod enc Tryz.prog w 0 spare held m 5 (([c0, c1, c2].drop i).take 1) = some y := by
          intro i hi
          have h1 := hg i hi
          rw [hc1, Nat.mul_one, List.getElem?_eq_getElem (by omega)] at h1
          exact ⟨_, h1⟩
        obtain ⟨_, g0⟩ := g 0 (by omega)
        obtain ⟨_, g1⟩ := g 1 (by omega)
        obtain ⟨_, g2⟩ := g 2 (by omega)
        obtain ⟨n0, e0, f0⟩ := elem_int Tryz.underlying5 g0
        obtain ⟨n1, e1, f1⟩ := elem_int Tryz.underlying5 g1
        obtain ⟨n2, e2, f2⟩ := elem_int Tryz.underlying5 g2
        have e0' : [c0] = [Value.int .u8 n0] := e0
        have e1' : [c1] = [Value.int .u8 n1] := e1
        have e2' : [c2] = [Value.int .u8 n2] := e2
        simp only [List.cons.injEq, and_true] at e0' e1' e2'
        subst e0' e1' e2'
        exact ⟨(n0, n1, n2), ⟨hat 0 (by omega), hat 1 (by omega), hat 2 (by omega)⟩, wf_u8 f0, wf_u8 f1, wf_u8 f2⟩
    obtain ⟨D, hD⟩ := choose_lt each
    exact ⟨N, _, len, cap, D, rfl, rfl, hN.1, hN.2, fun _ => ⟨b, o, rfl, R.lt, fun k hk => (hD k hk).1⟩, fun k hk => (hD k hk).2⟩

set_option maxRecDepth 100000 in
theorem ints_cells {H : Type} {enc : TypeId × Value → H} {w : World} {v : Value} {x : DataW H × List MemPlace} {fuel : Nat} {spare : Nat → Bool} {held : Bool}
    (h : DataW.trod enc Tryz.prog w 0 spare held fuel 25 [v] = some x) : ∃ x : List Int, IntsAt w v x := by
  rcases rows_of Tryz.underlying25 (K := 1) (by kernel_rfl) (by decide) h with ⟨A, cap, rfl⟩ | ⟨b, o, n, cap, rfl, R⟩
  · exact ⟨[], A, cap, rfl, by simp, fun h => absurd h (by simp)⟩
  · have each : ∀ i, i < n → ∃ q : Int, w.cell? ⟨b, o + i, none⟩ = some (.int .i64 q) := by
      intro i hi
      obtain ⟨cs, hlen, hat, fuel, x, hx⟩ := R.at_ i hi
      match cs, hlen with
      | [c0], _ =>
        obtain ⟨n0, e0, f0⟩ := elem_int Tryz.underlying3 hx
        simp only [List.cons.injEq, and_true] at e0
        subst e0
        have h0 := hat 0 (by omega)
        rw [Nat.mul_one, Nat.add_zero] at h0
        exact ⟨n0, h0⟩
    obtain ⟨D, hD⟩ := choose_lt each
    refine ⟨(List.range n).map D, some ⟨b, o, none⟩, cap, by simp, by simpa using R.le, fun _ => ⟨b, o, rfl, R.lt, fun k hk => ?_⟩⟩
    have hk' : k < n := by simpa using hk
    rw [hD k hk']
    simp


theorem array5 {α : Type} {cs : Array α} (h : cs.size = 5) : ∃ c0 c1 c2 c3 c4, cs = #[c0, c1, c2, c3, c4] := by
  obtain ⟨l⟩ := cs
  match l, h with
  | [c0, c1, c2, c3, c4], _ => exact ⟨c0, c1, c2, c3, c4, rfl⟩
theorem array6 {α : Type} {cs : Array α} (h : cs.size = 6) : ∃ c0 c1 c2 c3 c4 c5, cs = #[c0, c1, c2, c3, c4, c5] := by
  obtain ⟨l⟩ := cs
  match l, h with
  | [c0, c1, c2, c3, c4, c5], _ => exact ⟨c0, c1, c2, c3, c4, c5, rfl⟩
theorem cRaw : Tryz.prog.cellsOf 24 = 2 := by kernel_rfl
theorem cInts : Tryz.prog.cellsOf 25 = 1 := by kernel_rfl
set_option maxRecDepth 100000 in
theorem proof_open {H : Type} {enc : TypeId × Value → H} {w : World} {v : Value} {d : DataW H} {p : List MemPlace} {spare : Nat → Bool} {held : Bool} {b0 : Nat}
    (hv : Value.okWide Tryz.prog w .any b0 46 v) (h : DataW.Trod enc Tryz.prog w 0 spare held 46 v d p) :
    ∃ (N : Int) (A : Option Addr) (len cap : Nat) (D : Nat → Int × Int × Int) (vx vf vy : Value) (xs fs ys : List Int), v = .agg #[.int .u8 N, .slice A len cap, vx, vf, vy] ∧ 0 ≤ N ∧ N ≤ 255 ∧ TriAt w A len D ∧ IntsAt w vx xs ∧ IntsAt w vf fs ∧ IntsAt w vy ys := by
  obtain ⟨cs, rfl, hsz⟩ := okWide_struct Tryz.underlying46 hv
  obtain ⟨c0, c1, c2, c3, c4, rfl⟩ := array5 (hsz.trans (by kernel_rfl))
  obtain ⟨fuel, hf⟩ := h
  obtain ⟨y0, y1, y2, y3, n, _, _, h0, h1, h2, h3⟩ := Go.Joins.trod_struct4 Tryz.underlying46 hf
  simp only [cRaw] at h0
  simp only [cInts] at h1 h2 h3
  have h0 : DataW.trod enc Tryz.prog w 0 spare held n 24 [c0, c1] = some y0 := h0
  have h1 : DataW.trod enc Tryz.prog w 0 spare held n 25 [c2] = some y1 := h1
  have h2 : DataW.trod enc Tryz.prog w 0 spare held n 25 [c3] = some y2 := h2
  have h3 : DataW.trod enc Tryz.prog w 0 spare held n 25 [c4] = some y3 := h3
  obtain ⟨N, A, len, cap, D, rfl, rfl, n0, n1, hT⟩ := raw_cells h0
  obtain ⟨xs, hx⟩ := ints_cells h1
  obtain ⟨fs, hfs⟩ := ints_cells h2
  obtain ⟨ys, hy⟩ := ints_cells h3
  exact ⟨N, A, len, cap, D, c2, c3, c4, xs, fs, ys, rfl, n0, n1, hT, hx, hfs, hy⟩
set_option maxRecDepth 100000 in
theorem pair_cells {H : Type} {enc : TypeId × Value → H} {w : World} {c0 c1 : Value} {x : DataW H × List MemPlace} {fuel : Nat} {spare : Nat → Bool} {held : Bool}
    (hf : DataW.trod enc Tryz.prog w 0 spare held fuel 26 [c0, c1] = some x) :
    ∃ a b : Int, c0 = .int .u8 a ∧ c1 = .int .u8 b ∧ 0 ≤ a ∧ a ≤ 255 ∧ 0 ≤ b ∧ b ≤ 255 := by
  obtain ⟨xs, m, _, _, _, hl, hg⟩ := DataW.trod_array Tryz.underlying26 hf
  have hc1 : Tryz.prog.cellsOf 5 = 1 := by kernel_rfl
  have g : ∀ i (hi : i < 2), ∃ y, DataW.trod enc Tryz.prog w 0 spare held m 5 (([c0, c1].drop i).take 1) = some y := by
    intro i hi
    have h1 := hg i hi
    rw [hc1, Nat.mul_one, List.getElem?_eq_getElem (by omega)] at h1
    exact ⟨_, h1⟩
  obtain ⟨_, g0⟩ := g 0 (by omega)
  obtain ⟨_, g1⟩ := g 1 (by omega)
  obtain ⟨n0, e0, f0⟩ := elem_int Tryz.underlying5 g0
  obtain ⟨n1, e1, f1⟩ := elem_int Tryz.underlying5 g1
  have e0' : [c0] = [Value.int .u8 n0] := e0
  have e1' : [c1] = [Value.int .u8 n1] := e1
  simp only [List.cons.injEq, and_true] at e0' e1'
  subst e0' e1'
  have w0 := wf_u8 f0
  have w1 := wf_u8 f1
  exact ⟨n0, n1, rfl, rfl, w0.1, w0.2, w1.1, w1.2⟩
theorem cDuo : Tryz.prog.cellsOf 26 = 2 := by kernel_rfl
set_option maxRecDepth 100000 in
theorem case_open {H : Type} {enc : TypeId × Value → H} {w : World} {v : Value} {d : DataW H} {p : List MemPlace} {spare : Nat → Bool} {held : Bool} {b0 : Nat}
    (hv : Value.okWide Tryz.prog w .any b0 28 v) (h : DataW.Trod enc Tryz.prog w 0 spare held 28 v d p) :
    ∃ (N : Int) (A : Option Addr) (len cap : Nat) (D : Nat → Int × Int × Int) (vx vf : Value) (xs fs : List Int) (a b : Int), v = .agg #[.int .u8 N, .slice A len cap, vx, vf, .int .u8 a, .int .u8 b] ∧ 0 ≤ N ∧ N ≤ 255 ∧ TriAt w A len D ∧ IntsAt w vx xs ∧ IntsAt w vf fs ∧ 0 ≤ a ∧ a ≤ 255 ∧ 0 ≤ b ∧ b ≤ 255 := by
  obtain ⟨cs, rfl, hsz⟩ := okWide_struct Tryz.underlying28 hv
  obtain ⟨c0, c1, c2, c3, c4, c5, rfl⟩ := array6 (hsz.trans (by kernel_rfl))
  obtain ⟨fuel, hf⟩ := h
  obtain ⟨y0, y1, y2, y3, n, _, _, h0, h1, h2, h3⟩ := Go.Joins.trod_struct4 Tryz.underlying28 hf
  simp only [cRaw] at h0
  simp only [cInts] at h1 h2
  simp only [cDuo] at h3
  have h0 : DataW.trod enc Tryz.prog w 0 spare held n 24 [c0, c1] = some y0 := h0
  have h1 : DataW.trod enc Tryz.prog w 0 spare held n 25 [c2] = some y1 := h1
  have h2 : DataW.trod enc Tryz.prog w 0 spare held n 25 [c3] = some y2 := h2
  have h3 : DataW.trod enc Tryz.prog w 0 spare held n 26 [c4, c5] = some y3 := h3
  obtain ⟨N, A, len, cap, D, rfl, rfl, n0, n1, hT⟩ := raw_cells h0
  obtain ⟨xs, hx⟩ := ints_cells h1
  obtain ⟨fs, hfs⟩ := ints_cells h2
  obtain ⟨a, b, rfl, rfl, k0, k1, k2, k3⟩ := pair_cells h3
  exact ⟨N, A, len, cap, D, c2, c3, xs, fs, a, b, rfl, n0, n1, hT, hx, hfs, k0, k1, k2, k3⟩
end Go.Proofs.YtdpacaomkahgfaaGreatDoor
