/-
  JoinBack: its arguments opened: places, three bytes. Conditions: none.
-/
import Derived.Test.YtieffijdhcbcfaaJoinBackW
namespace Go.Proofs.Ytieffijdhcbcfaa
open Go.RowKit Go.ChangeShapes Go.WideShapes Go.Deep

set_option maxRecDepth 100000 in
theorem triple_open13 {H : Type} {enc : TypeId × Value → H} {w : World} {v : Value} {d : DataW H} {p : List MemPlace} {spare : Nat → Bool} {held : Bool} {b0 : Nat}
    (hv : Value.okWide Try.prog w .any b0 50 v) (h : DataW.Trod enc Try.prog w 0 spare held 50 v d p) :
    ∃ a b c : Int, v = .agg #[.int .u8 a, .int .u8 b, .int .u8 c] ∧ (0 ≤ a ∧ a ≤ 255) ∧ (0 ≤ b ∧ b ≤ 255) ∧ 0 ≤ c ∧ c ≤ 255 := by
  have hv2 : ∃ cs : Array Value, v = .agg cs ∧ cs.size = 3 := by
    have hu := Try.underlying50
    have hc : Try.prog.cellsOf 50 = 3 := by kernel_rfl
    simp only [Value.okWide, hu] at hv
    obtain ⟨cs, h1, h2, _⟩ := hv
    exact ⟨cs, h1, by rw [h2, hc]⟩
  obtain ⟨cs, rfl, hs⟩ := hv2
  obtain ⟨c0, c1, c2, rfl⟩ := Go.Joins.array3 hs
  obtain ⟨fuel, hf⟩ := h
  obtain ⟨xs, m, _, _, _, hl, hg⟩ := DataW.trod_array Try.underlying50 hf
  have hc1 : Try.prog.cellsOf 5 = 1 := by kernel_rfl
  have g : ∀ i (hi : i < 3), ∃ y, DataW.trod enc Try.prog w 0 spare held m 5 (([c0, c1, c2].drop i).take 1) = some y := by
    intro i hi
    have h1 := hg i hi
    rw [hc1, Nat.mul_one, List.getElem?_eq_getElem (by omega)] at h1
    exact ⟨_, h1⟩
  obtain ⟨_, g0⟩ := g 0 (by omega)
  obtain ⟨_, g1⟩ := g 1 (by omega)
  obtain ⟨_, g2⟩ := g 2 (by omega)
  obtain ⟨n0, e0, f0⟩ := elem_int Try.underlying5 g0
  obtain ⟨n1, e1, f1⟩ := elem_int Try.underlying5 g1
  obtain ⟨n2, e2, f2⟩ := elem_int Try.underlying5 g2
  have e0' : [c0] = [Value.int .u8 n0] := e0
  have e1' : [c1] = [Value.int .u8 n1] := e1
  have e2' : [c2] = [Value.int .u8 n2] := e2
  simp only [List.cons.injEq, and_true] at e0' e1' e2'
  subst e0' e1' e2'
  exact ⟨n0, n1, n2, rfl, wf_n10 f0, wf_n10 f1, wf_n10 f2⟩
set_option maxRecDepth 100000 in
theorem back13_arg {H : Type} {enc : TypeId × Value → H} {w : World} {v v2 : Value} {d d2 : DataW H} {p p2 : List MemPlace} {spare spare2 : Nat → Bool} {held held2 : Bool} {b0 b2 : Nat}
    (hv : Value.okWide Try.prog w .any b0 25 v) (h : DataW.Trod enc Try.prog w 0 spare held 25 v d p)
    (hv2 : Value.okWide Try.prog w .any b2 50 v2) (h2 : DataW.Trod enc Try.prog w 0 spare2 held2 50 v2 d2 p2) :
    Calls Try.prog 5 #[v, v2] w fun e w' => e = .returned (.bool true) ∧ Below w.heap.size w w' := by
  obtain ⟨A1, A2, A3, n1, n2, n3, k1, k2, k3, D1, D2, D3, rfl, hP⟩ := places_open hv h
  obtain ⟨a, b, c, rfl, ha, hb, hc⟩ := triple_open13 hv2 h2
  obtain ⟨a, rfl⟩ := Int.eq_ofNat_of_zero_le ha.1
  obtain ⟨b, rfl⟩ := Int.eq_ofNat_of_zero_le hb.1
  obtain ⟨c, rfl⟩ := Int.eq_ofNat_of_zero_le hc.1
  exact back13 k1 k2 k3 a b c w hP (by omega) (by omega) (by omega)
end Go.Proofs.Ytieffijdhcbcfaa
