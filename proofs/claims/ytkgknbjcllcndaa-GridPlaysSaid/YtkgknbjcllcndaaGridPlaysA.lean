/-
  GridPlays: its arguments opened: a byte, and a slice of acts. Conditions: none.
-/
import Derived.Test.YtkgknbjcllcndaaGridPlaysW
import Derived.Test.YtkgknbjcllcndaaArgs
import Derived.LoopN
namespace Go.Proofs.Ytkgknbjcllcndaa
open Go.RowKit Go.ChangeShapes Go.WideShapes Go.Deep Go.Proofs.Ytkgknbjcllcndaa.GrM

set_option maxHeartbeats 4000000 in
set_option maxRecDepth 100000 in
theorem plays10_zero (u : Int) (A : Option Addr) (cap : Nat) (w : World) (hu0 : 0 ≤ u) (hu1 : u ≤ 255) :
    Calls Try.prog 3 #[.int .u8 u, .slice A 0 cap] w fun e w' => e = .returned (.bool true) ∧ Below w.heap.size w w' := by
  obtain ⟨m, hm⟩ : ∃ m : Nat, u % 8 = (m : Int) := ⟨(u % 8).toNat, by omega⟩
  have hm8 : m ≤ 7 := by omega
  have NY := Lib.hid (fun w => newY m w (by omega))
  have RN := Lib.hid (fun w => refNew m w (by omega))
  have WK := Lib.hid (fun w => wakes10 w)
  go_enter Try.func3, Try.ntmps3
  go_wp2_with (first
    | (go_at_call 10; refine (WK.out _).mono ?_; rintro e w3 ⟨rfl, b3⟩; have B3 := Lib.hid b3; clear b3)
    | (go_at_call 9; refine (RN.out _).mono ?_; rintro e w2 ⟨⟨g2, rfl, o2⟩, b2⟩; have B2 := Lib.hid b2; clear o2 b2)
    | (go_at_call 8; refine (NY.out _).mono ?_; rintro e w1 ⟨p, v1, rfl, g1, f1, b1⟩; have B1 := Lib.hid b1; clear g1 f1 b1))
  refine wp_loop_rounds 1 ?_
  rw [rounds_succ]
  go_wp2_with fail
  go_ret
  have h2 := B1.out.trans (B2.out.mono B1.out.size)
  exact ⟨rfl, h2.trans (B3.out.mono h2.size)⟩
theorem wf_of10 {k : IntKind} {n : Int} (h : (Lit.int k n).wf = true) : k.min ≤ n ∧ n ≤ k.max := by
  simpa [Lit.wf] using h
set_option maxRecDepth 100000 in
theorem plays10_arg {H : Type} {enc : TypeId × Value → H} {w : World} {v : Value} {d : DataW H} {p : List MemPlace} {spare : Nat → Bool} {held : Bool} {b0 : Nat} (u : Int) (hu : 0 ≤ u ∧ u ≤ 255)
    (hv : Value.okWide Try.prog w .any b0 22 v) (h : DataW.Trod enc Try.prog w 0 spare held 22 v d p) :
    Calls Try.prog 3 #[.int .u8 u, v] w fun e w' => e = .returned (.bool true) ∧ Below w.heap.size w w' := by
  rcases open_rows Try.underlying22 (K := 5) (by kernel_rfl) (by decide) hv h with ⟨A, cap, rfl⟩ | ⟨b, o, n, cap, rfl, R⟩
  · exact plays10_zero u A cap w hu.1 hu.2
  · have each : ∀ i, i < n → ∃ q : Int × Int × Int × Int × Int, (w.cell? ⟨b, o + i * 5, none⟩ = some (.int .u8 q.1) ∧ w.cell? ⟨b, o + i * 5 + 1, none⟩ = some (.int .i64 q.2.1) ∧ w.cell? ⟨b, o + i * 5 + 2, none⟩ = some (.int .i64 q.2.2.1) ∧ w.cell? ⟨b, o + i * 5 + 3, none⟩ = some (.int .i64 q.2.2.2.1) ∧ w.cell? ⟨b, o + i * 5 + 4, none⟩ = some (.int .i64 q.2.2.2.2)) ∧
        (0 ≤ q.1 ∧ q.1 ≤ 255) := by
      intro i hi
      obtain ⟨cs, hlen, hat, fuel, x, hx⟩ := R.at_ i hi
      match cs, hlen with
      | [c0, c1, c2, c3, c4], _ =>
        obtain ⟨_, _, g0⟩ := elem_field Try.underlying31 hx 0 _ rfl
        obtain ⟨_, _, g1⟩ := elem_field Try.underlying31 hx 1 _ rfl
        obtain ⟨_, _, g2⟩ := elem_field Try.underlying31 hx 2 _ rfl
        obtain ⟨_, _, g3⟩ := elem_field Try.underlying31 hx 3 _ rfl
        obtain ⟨_, _, g4⟩ := elem_field Try.underlying31 hx 4 _ rfl
        obtain ⟨n0, e0, f0⟩ := elem_int Try.underlying5 g0
        obtain ⟨n1, e1, f1⟩ := elem_int Try.underlying3 g1
        obtain ⟨n2, e2, f2⟩ := elem_int Try.underlying3 g2
        obtain ⟨n3, e3, f3⟩ := elem_int Try.underlying3 g3
        obtain ⟨n4, e4, f4⟩ := elem_int Try.underlying3 g4
        have e0' : [c0] = [Value.int .u8 n0] := e0
        have e1' : [c1] = [Value.int .i64 n1] := e1
        have e2' : [c2] = [Value.int .i64 n2] := e2
        have e3' : [c3] = [Value.int .i64 n3] := e3
        have e4' : [c4] = [Value.int .i64 n4] := e4
        simp only [List.cons.injEq, and_true] at e0' e1' e2' e3' e4'
        subst e0' e1' e2' e3' e4'
        exact ⟨(n0, n1, n2, n3, n4), ⟨hat 0 (by omega), hat 1 (by omega), hat 2 (by omega), hat 3 (by omega), hat 4 (by omega)⟩, wf_of10 f0⟩
    obtain ⟨D, hD⟩ := choose_lt each
    exact plays10 u b o n cap (min n 40) (fun k => (D k).1) (fun k => (D k).2.1) (fun k => (D k).2.2.1) (fun k => (D k).2.2.2.1) (fun k => (D k).2.2.2.2) w hu.1 hu.2 R.lt R.le (by omega) (by omega) (by split <;> omega)
      (fun k hk => (hD k hk).2) (fun k hk => (hD k hk).1)
end Go.Proofs.Ytkgknbjcllcndaa
