/-
  HeapLeast: its argument opened: at every slice of acts the call answers true. Conditions: none.
-/
import Derived.Test.YtgkaoifjgcpgaaaHeapLeastW
import Derived.Test.YtgkaoifjgcpgaaaHeapPlaysA
namespace Go.Proofs.Ytgkaoifjgcpgaaa
open Go.RowKit Go.ChangeShapes Go.WideShapes Go.Deep

set_option maxHeartbeats 1000000 in
theorem least_zero (A : Option Addr) (cap : Nat) (w : World) :
    Calls Try.prog 6 #[.slice A 0 cap] w fun e w' => e = .returned (.bool true) ∧ Below w.heap.size w w' := by
  have hmm := @run_makeMap Try.prog
  go_enter Try.func6, Try.ntmps6
  go_wp2_with ((go_at_call 29; refine (HI.new (lt := ltI) _).mono ?_; rintro e w1 ⟨rfl, h1, b1⟩; have B1 := Lib.hid b1; clear h1 b1))
  refine wp_loop_rounds 1 ?_
  rw [rounds_succ]
  go_wp2_with ((go_at_call 15; refine (wakes _).mono ?_; rintro e w9 ⟨rfl, hb9⟩))
  go_ret
  exact ⟨rfl, (B1.out.alloc B1.out.size _).trans (hb9.mono (by have := B1.out.size; simp; omega))⟩

/-- What a slice of acts reads as. -/
structure ActsAt (w : World) (b o n cap : Nat) (D : Nat → Int × Int × Int) : Prop where
  lt : b < w.heap.size
  le : n ≤ cap
  max : cap ≤ 9223372036854775807
  c0 : ∀ k, k < n → w.cell? ⟨b, o + k * 3, none⟩ = some (.int .u8 (D k).1)
  c1 : ∀ k, k < n → w.cell? ⟨b, o + k * 3 + 1, none⟩ = some (.int .i8 (D k).2.1)
  c2 : ∀ k, k < n → w.cell? ⟨b, o + k * 3 + 2, none⟩ = some (.int .i8 (D k).2.2)
  r0 : ∀ k, k < n → 0 ≤ (D k).1 ∧ (D k).1 ≤ 255
  r1 : ∀ k, k < n → -128 ≤ (D k).2.1 ∧ (D k).2.1 ≤ 127
  r2 : ∀ k, k < n → -128 ≤ (D k).2.2 ∧ (D k).2.2 ≤ 127

set_option maxRecDepth 100000 in
theorem open_acts {H : Type} {enc : TypeId × Value → H} {w : World} {v : Value} {d : DataW H} {p : List MemPlace} {spare : Nat → Bool} {held : Bool} {b0 : Nat}
    (hv : Value.okWide Try.prog w .any b0 22 v) (h : DataW.Trod enc Try.prog w 0 spare held 22 v d p) :
    (∃ A cap, v = .slice A 0 cap) ∨ ∃ b o n cap D, v = .slice (some ⟨b, o, none⟩) n cap ∧ ActsAt w b o n cap D := by
  rcases open_rows Try.underlying22 (K := 3) (by kernel_rfl) (by decide) hv h with ⟨A, cap, rfl⟩ | ⟨b, o, n, cap, rfl, R⟩
  · exact Or.inl ⟨A, cap, rfl⟩
  · have each : ∀ i, i < n → ∃ q : Int × Int × Int, (w.cell? ⟨b, o + i * 3, none⟩ = some (.int .u8 q.1) ∧ w.cell? ⟨b, o + i * 3 + 1, none⟩ = some (.int .i8 q.2.1) ∧ w.cell? ⟨b, o + i * 3 + 2, none⟩ = some (.int .i8 q.2.2)) ∧
        (0 ≤ q.1 ∧ q.1 ≤ 255) ∧ (-128 ≤ q.2.1 ∧ q.2.1 ≤ 127) ∧ (-128 ≤ q.2.2 ∧ q.2.2 ≤ 127) := by
      intro i hi
      obtain ⟨cs, hlen, hat, fuel, x, hx⟩ := R.at_ i hi
      match cs, hlen with
      | [c0, c1, c2], _ =>
        obtain ⟨_, _, g0⟩ := elem_field Try.underlying31 hx 0 _ rfl
        obtain ⟨_, _, g1⟩ := elem_field Try.underlying31 hx 1 _ rfl
        obtain ⟨_, _, g2⟩ := elem_field Try.underlying31 hx 2 _ rfl
        obtain ⟨n0, e0, f0⟩ := elem_int Try.underlying5 g0
        obtain ⟨n1, e1, f1⟩ := elem_int Try.underlying29 g1
        obtain ⟨n2, e2, f2⟩ := elem_int Try.underlying29 g2
        have e0' : [c0] = [Value.int .u8 n0] := e0
        have e1' : [c1] = [Value.int .i8 n1] := e1
        have e2' : [c2] = [Value.int .i8 n2] := e2
        simp only [List.cons.injEq, and_true] at e0' e1' e2'
        subst e0' e1' e2'
        exact ⟨(n0, n1, n2), ⟨hat 0 (by omega), hat 1 (by omega), hat 2 (by omega)⟩, wf_of f0, wf_of f1, wf_of f2⟩
    obtain ⟨D, hD⟩ := choose_lt each
    have hmx := R.max
    unfold maxLen at hmx
    exact Or.inr ⟨b, o, n, cap, D, rfl, R.lt, R.le, hmx, fun k hk => (hD k hk).1.1, fun k hk => (hD k hk).1.2.1, fun k hk => (hD k hk).1.2.2,
      fun k hk => (hD k hk).2.1, fun k hk => (hD k hk).2.2.1, fun k hk => (hD k hk).2.2.2⟩

set_option maxRecDepth 100000 in
theorem least_arg {H : Type} {enc : TypeId × Value → H} {w : World} {v : Value} {d : DataW H} {p : List MemPlace} {spare : Nat → Bool} {held : Bool} {b0 : Nat}
    (hv : Value.okWide Try.prog w .any b0 22 v) (h : DataW.Trod enc Try.prog w 0 spare held 22 v d p) :
    Calls Try.prog 6 #[v] w fun e w' => e = .returned (.bool true) ∧ Below w.heap.size w w' := by
  rcases open_acts hv h with ⟨A, cap, rfl⟩ | ⟨b, o, n, cap, D, rfl, R⟩
  · exact least_zero A cap w
  · exact leastlaw b o n cap (min n 100) D w R.lt R.le R.max (by omega) (by omega) (by omega) R.c0 R.c1 R.c2 R.r0 R.r1
end Go.Proofs.Ytgkaoifjgcpgaaa
