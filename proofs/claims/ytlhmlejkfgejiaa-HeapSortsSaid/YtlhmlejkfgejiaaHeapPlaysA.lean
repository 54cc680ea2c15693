/-
  HeapPlays: its argument opened: at every slice of acts the call answers true. Conditions: none.
-/
import Derived.Test.YtlhmlejkfgejiaaHeapPlaysW
import Derived.Test.YtlhmlejkfgejiaaArgs
namespace Go.Proofs.Ytlhmlejkfgejiaa
open Go.RowKit Go.ChangeShapes Go.WideShapes Go.Deep

set_option maxHeartbeats 1000000 in
theorem plays_zero (A : Option Addr) (cap : Nat) (w : World) :
    Calls Try.prog 3 #[.slice A 0 cap] w fun e w' => e = .returned (.bool true) ∧ Below w.heap.size w w' := by
  go_enter Try.func3, Try.ntmps3
  go_wp2_with ((go_at_call 7; refine (HO.new (lt := ltO) _).mono ?_; rintro e w1 ⟨rfl, h1, b1⟩; have B1 := Lib.hid b1; clear h1 b1))
  refine wp_loop_rounds 1 ?_
  rw [rounds_succ]
  go_wp2_with ((go_at_call 15; refine (wakes _).mono ?_; rintro e w9 ⟨rfl, hb9⟩))
  go_ret
  exact ⟨rfl, B1.out.trans (hb9.mono B1.out.size)⟩

theorem wf_of {k : IntKind} {n : Int} (h : (Lit.int k n).wf = true) : k.min ≤ n ∧ n ≤ k.max := by
  simpa [Lit.wf] using h

set_option maxRecDepth 100000 in
theorem plays_arg {H : Type} {enc : TypeId × Value → H} {w : World} {v : Value} {d : DataW H} {p : List MemPlace} {spare : Nat → Bool} {held : Bool} {b0 : Nat}
    (hv : Value.okWide Try.prog w .any b0 22 v) (h : DataW.Trod enc Try.prog w 0 spare held 22 v d p) :
    Calls Try.prog 3 #[v] w fun e w' => e = .returned (.bool true) ∧ Below w.heap.size w w' := by
  rcases open_rows Try.underlying22 (K := 3) (by kernel_rfl) (by decide) hv h with ⟨A, cap, rfl⟩ | ⟨b, o, n, cap, rfl, R⟩
  · exact plays_zero A cap w
  · have each : ∀ i, i < n → ∃ q : Int × Int × Int, (w.cell? ⟨b, o + i * 3, none⟩ = some (.int .u8 q.1) ∧ w.cell? ⟨b, o + i * 3 + 1, none⟩ = some (.int .i8 q.2.1) ∧ w.cell? ⟨b, o + i * 3 + 2, none⟩ = some (.int .i8 q.2.2)) ∧
        (0 ≤ q.1 ∧ q.1 ≤ 255) ∧ (-128 ≤ q.2.1 ∧ q.2.1 ≤ 127) ∧ (-128 ≤ q.2.2 ∧ q.2.2 ≤ 127) := by
      intro i hi
      obtain ⟨cs, hlen, hat, fuel, x, hx⟩ := R.at_ i hi
      match cs, hlen with
      | [c0, c1, c2], _ =>
        obtain ⟨_, _, g0⟩ := elem_field Try.underlying31 hx 0 _ rfl
        obtain ⟨_, _, g1⟩ := elem_field Try.underlying31 hx 1 _ rfl
        obtain ⟨_, _, g2⟩ := elem_field Try.underlying31 hx 2 _ rfl
        obtain ⟨n0, e0, f0⟩ := elem_int Try.underlying5 g0
        obtain ⟨n1, e1, f1⟩ := elem_int Try.underlying29 g1
        obtain ⟨n2, e2, f2⟩ := elem_int Try.underlying29 g2
        have e0' : [c0] = [Value.int .u8 n0] := e0
        have e1' : [c1] = [Value.int .i8 n1] := e1
        have e2' : [c2] = [Value.int .i8 n2] := e2
        simp only [List.cons.injEq, and_true] at e0' e1' e2'
        subst e0' e1' e2'
        exact ⟨(n0, n1, n2), ⟨hat 0 (by omega), hat 1 (by omega), hat 2 (by omega)⟩, wf_of f0, wf_of f1, wf_of f2⟩
    obtain ⟨D, hD⟩ := choose_lt each
    have hmx := R.max
    unfold maxLen at hmx
    exact plays b o n cap (min n 200) D w R.lt R.le hmx (by omega) (by omega) (by omega) (fun k hk => (hD k hk).1.1) (fun k hk => (hD k hk).1.2.1) (fun k hk => (hD k hk).1.2.2)
      (fun k hk => (hD k hk).2.1) (fun k hk => (hD k hk).2.2.1) (fun k hk => (hD k hk).2.2.2)
end Go.Proofs.Ytlhmlejkfgejiaa
