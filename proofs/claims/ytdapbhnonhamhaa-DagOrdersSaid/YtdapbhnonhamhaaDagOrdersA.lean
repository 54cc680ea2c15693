/-
  DagOrders: its arguments opened. Conditions: none.
-/
import Derived.Test.YtdapbhnonhamhaaDagOrdersW
import Derived.Test.YtdapbhnonhamhaaDagRaw
import Derived.Test.YtdapbhnonhamhaaArgs
namespace Go.Proofs.Ytdapbhnonhamhaa
open Go.RowKit Go.ChangeShapes Go.WideShapes Go.Deep Go.Proofs.Ytdapbhnonhamhaa.DagM

set_option maxRecDepth 100000 in
theorem arcs_open {H : Type} {enc : TypeId × Value → H} {w : World} {v : Value} {d : DataW H} {p : List MemPlace} {spare : Nat → Bool} {held : Bool} {b0 : Nat}
    (hv : Value.okWide Try.prog w .any b0 22 v) (h : DataW.Trod enc Try.prog w 0 spare held 22 v d p) : ∃ L : List Arc, ArcsAt w v L := by
  rcases open_rows Try.underlying22 (K := 3) (by kernel_rfl) (by decide) hv h with ⟨A, cap, rfl⟩ | ⟨b, o, n, cap, rfl, R⟩
  · exact ⟨[], A, cap, rfl, by simp, fun h => absurd h (by simp)⟩
  · have each : ∀ i, i < n → ∃ q : Arc, w.cell? ⟨b, o + i * 3, none⟩ = some (.int .i64 q.1) ∧ w.cell? ⟨b, o + i * 3 + 1, none⟩ = some (.int .i64 q.2.1) ∧ w.cell? ⟨b, o + i * 3 + 2, none⟩ = some (.int .i64 q.2.2) := by
      intro i hi
      obtain ⟨cs, hlen, hat, fuel, x, hx⟩ := R.at_ i hi
      match cs, hlen with
      | [c0, c1, c2], _ =>
        obtain ⟨_, _, g0⟩ := elem_field Try.underlying46 hx 0 _ rfl
        obtain ⟨_, _, g1⟩ := elem_field Try.underlying46 hx 1 _ rfl
        obtain ⟨_, _, g2⟩ := elem_field Try.underlying46 hx 2 _ rfl
        obtain ⟨n0, e0, _⟩ := elem_int Try.underlying3 g0
        obtain ⟨n1, e1, _⟩ := elem_int Try.underlying3 g1
        obtain ⟨n2, e2, _⟩ := elem_int Try.underlying3 g2
        have e0' : [c0] = [Value.int .i64 n0] := e0
        have e1' : [c1] = [Value.int .i64 n1] := e1
        have e2' : [c2] = [Value.int .i64 n2] := e2
        simp only [List.cons.injEq, and_true] at e0' e1' e2'
        subst e0' e1' e2'
        exact ⟨(n0, n1, n2), hat 0 (by omega), hat 1 (by omega), hat 2 (by omega)⟩
    obtain ⟨D, hD⟩ := choose_lt each
    refine ⟨(List.range n).map D, some ⟨b, o, none⟩, cap, by simp, by simpa using R.le, fun _ => ⟨b, o, rfl, R.lt, fun k hk => ?_⟩⟩
    have hk' : k < n := by simpa using hk
    have h := hD k hk'
    simpa using h

set_option maxRecDepth 100000 in
theorem orders_arg {H : Type} {enc : TypeId × Value → H} {w : World} {v : Value} {d : DataW H} {p : List MemPlace} {spare : Nat → Bool} {held : Bool} {b0 : Nat} (n : Int)
    (hv : Value.okWide Try.prog w .any b0 22 v) (h : DataW.Trod enc Try.prog w 0 spare held 22 v d p) :
    Calls Try.prog 3 #[.int .i64 n, v] w fun e w' => e = .returned (.bool true) ∧ Below w.heap.size w w' := by
  obtain ⟨L, hL⟩ := arcs_open hv h
  exact orders (fun n v L w hA hn => raw n v L w hA hn) n v L w hL
end Go.Proofs.Ytdapbhnonhamhaa
