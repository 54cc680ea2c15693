/-
  CertTexts: its arguments opened. Conditions: the library's table and errors are laid.
-/
import Derived.Test.YtappfojjjegnpaaGreatDoorCertTextsW
import Derived.Test.YtappfojjjegnpaaGreatDoorCrLa
import Derived.Lib.SmallJoins
namespace Go.Proofs.YtappfojjjegnpaaGreatDoor
open Go.RowKit Go.ChangeShapes Go.WideShapes Go.Deep Go.Proofs.YtappfojjjegnpaaGreatDoor.LexM

set_option maxRecDepth 100000 in
theorem ints_open63 {H : Type} {enc : TypeId × Value → H} {w : World} {v : Value} {d : DataW H} {p : List MemPlace} {spare : Nat → Bool} {held : Bool} {b0 : Nat}
    (hv : Value.okWide Tryz.prog w .any b0 22 v) (h : DataW.Trod enc Tryz.prog w 0 spare held 22 v d p) : ∃ x : List Int, IntsAt w v x ∧ ∀ c ∈ x, In63 c := by
  rcases open_rows Tryz.underlying22 (K := 1) (by kernel_rfl) (by decide) hv h with ⟨A, cap, rfl⟩ | ⟨b, o, n, cap, rfl, R⟩
  · exact ⟨[], ⟨A, cap, rfl, by simp, fun h => absurd h (by simp)⟩, fun c hc => absurd hc (by simp)⟩
  · have each : ∀ i, i < n → ∃ q : Int, w.cell? ⟨b, o + i, none⟩ = some (.int .i64 q) ∧ In63 q := by
      intro i hi
      obtain ⟨cs, hlen, hat, fuel, x, hx⟩ := R.at_ i hi
      match cs, hlen with
      | [c0], _ =>
        obtain ⟨n0, e0, f0⟩ := elem_int Tryz.underlying3 hx
        simp only [List.cons.injEq, and_true] at e0
        subst e0
        have h0 := hat 0 (by omega)
        rw [Nat.mul_one, Nat.add_zero] at h0
        exact ⟨n0, h0, (Go.Joins.in64_of_wf f0).1, (Go.Joins.in64_of_wf f0).2⟩
    obtain ⟨D, hD⟩ := choose_lt each
    refine ⟨(List.range n).map D, ⟨some ⟨b, o, none⟩, cap, by simp, by simpa using R.le, fun _ => ⟨b, o, rfl, R.lt, fun k hk => ?_⟩⟩, fun c hc => ?_⟩
    · have hk' : k < n := by simpa using hk
      rw [(hD k hk').1]
      simp
    · obtain ⟨i, hi, rfl⟩ := List.mem_map.1 hc
      exact (hD i (List.mem_range.1 hi)).2
set_option maxRecDepth 100000 in
theorem textsLaw_arg {H : Type} {enc : TypeId × Value → H} {w : World} {v u : Value} {d0 d1 : DataW H} {p q : List MemPlace} {spare : Nat → Bool} {held : Bool} {b0 b1 : Nat} (s : ByteArray) (hT : TabE w)
    (hv : Value.okWide Tryz.prog w .any b0 22 v) (h : DataW.Trod enc Tryz.prog w 0 spare held 22 v d0 p)
    (hu : Value.okWide Tryz.prog w .any b1 22 u) (h1 : DataW.Trod enc Tryz.prog w 0 spare held 22 u d1 q) :
    Calls Tryz.prog 3 #[v, u, .string s] w fun e w' => e = .returned (.bool true) ∧ Below w.heap.size w w' := by
  obtain ⟨x, hX, hx⟩ := ints_open63 hv h
  obtain ⟨f, hF, hf⟩ := ints_open63 hu h1
  exact texts v u s x f w hX hF hx hf hT
end Go.Proofs.YtappfojjjegnpaaGreatDoor
