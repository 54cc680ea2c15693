/-
  HeapSorts: its two arguments opened: at every slice of small ints and every slice of texts the call answers true. Conditions: none.
-/
import Derived.Test.YtlhmlejkfgejiaaSortsW
import Derived.Test.YtlhmlejkfgejiaaMergesA
namespace Go.Proofs.Ytlhmlejkfgejiaa
open Go.RowKit Go.ChangeShapes Go.WideShapes Go.Deep

set_option maxRecDepth 100000 in
theorem strings_open {H : Type} {enc : TypeId × Value → H} {w : World} {v : Value} {d : DataW H} {p : List MemPlace} {spare : Nat → Bool} {held : Bool} {b0 : Nat}
    (hv : Value.okWide Try.prog w .any b0 41 v) (h : DataW.Trod enc Try.prog w 0 spare held 41 v d p) :
    ∃ (A : Option Addr) (n cap : Nat) (D : Nat → ByteArray), v = .slice A n cap ∧ n ≤ cap ∧
      (0 < n → ∃ b o, A = some ⟨b, o, none⟩ ∧ b < w.heap.size ∧ ∀ k, k < n → w.cell? ⟨b, o + k, none⟩ = some (.string (D k))) := by
  rcases open_rows Try.underlying41 (K := 1) (by kernel_rfl) (by decide) hv h with ⟨A, cap, rfl⟩ | ⟨b, o, n, cap, rfl, R⟩
  · exact ⟨A, 0, cap, fun _ => .empty, rfl, by omega, fun h => absurd h (by omega)⟩
  · have each : ∀ i, i < n → ∃ q : ByteArray, w.cell? ⟨b, o + i, none⟩ = some (.string q) := by
      intro i hi
      obtain ⟨cs, hlen, hat, fuel, x, hx⟩ := R.at_ i hi
      match cs, hlen with
      | [c0], _ =>
        obtain ⟨s, e0, _, _⟩ := DataW.trod_string Try.underlying9 hx
        simp only [List.cons.injEq, and_true] at e0
        subst e0
        have h0 := hat 0 (by omega)
        rw [Nat.mul_one, Nat.add_zero] at h0
        exact ⟨s, h0⟩
    obtain ⟨D, hD⟩ := choose_lt each
    exact ⟨_, n, cap, D, rfl, R.le, fun _ => ⟨b, o, rfl, R.lt, fun k hk => hD k hk⟩⟩

set_option maxRecDepth 100000 in
theorem sorts_arg {H : Type} {enc : TypeId × Value → H} {w : World} {v v' : Value} {d d' : DataW H} {p p' : List MemPlace} {spare spare' : Nat → Bool} {held held' : Bool} {b0 b0' : Nat}
    (hv : Value.okWide Try.prog w .any b0 40 v) (h : DataW.Trod enc Try.prog w 0 spare held 40 v d p)
    (hv' : Value.okWide Try.prog w .any b0' 41 v') (h' : DataW.Trod enc Try.prog w 0 spare' held' 41 v' d' p') :
    Calls Try.prog 4 #[v, v'] w fun e w' => e = .returned (.bool true) ∧ Below w.heap.size w w' := by
  obtain ⟨A, n, cap, D, rfl, hn, hA, hr⟩ := int8s_open hv h
  obtain ⟨A', n', cap', D', rfl, hn', hA'⟩ := strings_open hv' h'
  exact sorts A A' n cap n' cap' (min n 200) (min n' 50) D D' w hn hn' (by omega) (by omega) (by omega) (by omega) (by omega) (by omega) hA hA' hr
end Go.Proofs.Ytlhmlejkfgejiaa
