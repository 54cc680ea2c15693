/-
  An argument that is an array of two bytes, opened. Conditions: none.
-/
import Derived.Test.YtdapbhnonhamhaaDagOp
namespace Go.Proofs.Ytdapbhnonhamhaa
open Go.RowKit Go.ChangeShapes Go.WideShapes Go.Deep

set_option maxRecDepth 100000 in
theorem pair_open {H : Type} {enc : TypeId × Value → H} {w : World} {v : Value} {d : DataW H} {p : List MemPlace} {spare : Nat → Bool} {held : Bool} {b0 : Nat}
    (hv : Value.okWide Try.prog w .any b0 39 v) (h : DataW.Trod enc Try.prog w 0 spare held 39 v d p) :
    ∃ a b : Int, v = .agg #[.int .u8 a, .int .u8 b] ∧ 0 ≤ a ∧ a ≤ 255 ∧ 0 ≤ b ∧ b ≤ 255 := by
  have hv2 : ∃ cs : Array Value, v = .agg cs ∧ cs.size = 2 := by
    have hu := Try.underlying39
    have hc : Try.prog.cellsOf 39 = 2 := by kernel_rfl
    simp only [Value.okWide, hu] at hv
    obtain ⟨cs, h1, h2, _⟩ := hv
    exact ⟨cs, h1, by rw [h2, hc]⟩
  obtain ⟨cs, rfl, hs⟩ := hv2
  obtain ⟨c0, c1, rfl⟩ := Go.Joins.array2 hs
  obtain ⟨fuel, hf⟩ := h
  obtain ⟨xs, m, _, _, _, hl, hg⟩ := DataW.trod_array Try.underlying39 hf
  have hc1 : Try.prog.cellsOf 5 = 1 := by kernel_rfl
  have g : ∀ i (hi : i < 2), ∃ y, DataW.trod enc Try.prog w 0 spare held m 5 (([c0, c1].drop i).take 1) = some y := by
    intro i hi
    have h1 := hg i hi
    rw [hc1, Nat.mul_one, List.getElem?_eq_getElem (by omega)] at h1
    exact ⟨_, h1⟩
  obtain ⟨_, g0⟩ := g 0 (by omega)
  obtain ⟨_, g1⟩ := g 1 (by omega)
  obtain ⟨n0, e0, f0⟩ := elem_int Try.underlying5 g0
  obtain ⟨n1, e1, f1⟩ := elem_int Try.underlying5 g1
  have e0' : [c0] = [Value.int .u8 n0] := e0
  have e1' : [c1] = [Value.int .u8 n1] := e1
  simp only [List.cons.injEq, and_true] at e0' e1'
  subst e0' e1'
  have w0 := wf_u8 f0
  have w1 := wf_u8 f1
  exact ⟨n0, n1, rfl, w0.1, w0.2, w1.1, w1.2⟩
end Go.Proofs.Ytdapbhnonhamhaa
