/-
  The document's list: the first of the least, the list without one. Conditions: the list is a row of the call's own, of at most a million things.
-/
import Derived.Test.YtlhmlejkfgejiaaHeapWakes
namespace Go.Proofs.Ytlhmlejkfgejiaa
open Go.RowKit Go.Proofs.Ytlhmlejkfgejiaa.HeapM

/-- One's cells. -/
def encL (x : Int × Int) : List Value := [.int .i64 x.1, .int .i64 x.2]
theorem encL_len (x : Int × Int) : (encL x).length = 2 := rfl

section math
variable {α : Type} [Inhabited α] {lt : α → α → Bool}
/-- The first of the least of the first k. -/
def FirstN (lt : α → α → Bool) (L : List α) (k a : Nat) : Prop :=
  a < k ∧ ∀ b, b < k → (b < a → lt (L.getD a default) (L.getD b default) = true) ∧ (a < b → lt (L.getD b default) (L.getD a default) = false)
theorem firstN_one (L : List α) : FirstN lt L 1 0 := ⟨by omega, fun b hb => ⟨fun h => absurd h (by omega), fun h => absurd h (by omega)⟩⟩
theorem firstN_next (hO : Ord lt) {L : List α} {k a : Nat} (h : FirstN lt L k a) (hl : lt (L.getD k default) (L.getD a default) = true) : FirstN lt L (k + 1) k := by
  refine ⟨by omega, fun b hb => ⟨fun hbk => ?_, fun hkb => absurd hkb (by omega)⟩⟩
  have tr : ∀ x y z, lt x y = true → lt z y = false → lt x z = true := by
    intro x y z e1 e2
    cases e3 : lt x z
    · have := hO.ntrans _ _ _ e3 e2
      rw [e1] at this; cases this
    · rfl
  rcases Nat.lt_trichotomy b a with e | e | e
  · exact tr _ _ _ hl (hO.asym _ _ ((h.2 b (by omega)).1 e))
  · subst e; exact hl
  · exact tr _ _ _ hl ((h.2 b (by omega)).2 e)
theorem firstN_same {L : List α} {k a : Nat} (h : FirstN lt L k a) (hl : lt (L.getD k default) (L.getD a default) = false) : FirstN lt L (k + 1) a := by
  refine ⟨by have := h.1; omega, fun b hb => ?_⟩
  by_cases e : b = k
  · subst e; exact ⟨fun h' => absurd h' (by have := h.1; omega), fun _ => hl⟩
  · exact h.2 b (by omega)
end math

theorem cellsL {w : World} {base E n g cap : Nat} {L : List (Int × Int)} (h : w.ownsRow base E 2 (.slice (some ⟨g, 0, none⟩) n cap) n (L.flatMap encL)) (hn : n = L.length) (i : Nat) (hi : i < n) (r : Nat) (hr : r < 2) : w.cell? ⟨g, i * 2 + r, none⟩ = some ((encL (L.getD i default)).getD r default) := by
  subst hn
  rw [h.cellAt _ (by omega), ← flat_get encL encL_len L i r hi hr, List.getD_eq_getElem?_getD, List.getElem?_eq_getElem (by rw [h.1]; omega)]
  rfl

def LeastRel (L : List (Int × Int)) (w wr : World) (av iv : Value) : Prop :=
  ∃ k : Nat, k ≤ L.length ∧ iv = .int .i64 k ∧ Below w.heap.size w wr ∧ ((k = 0 ∧ av = .int .i64 (-1)) ∨ (∃ a : Nat, av = .int .i64 a ∧ FirstN ltO L k a))

set_option maxHeartbeats 1000000 in
theorem least_some (E g cap n a : Nat) (base : Nat) (L : List (Int × Int)) (w : World) (h : w.ownsRow base E 2 (.slice (some ⟨g, 0, none⟩) n cap) n (L.flatMap encL)) (hn : n = L.length) (hs : n ≤ 1000000) (ha : First ltO L a) :
    Calls Try.prog 9 #[.slice (some ⟨g, 0, none⟩) n cap] w fun e w' => e = .returned (.int .i64 a) ∧ Below w.heap.size w w' := by
  have H := Lib.hid h
  have HA := Lib.hid ha
  have HN := Lib.hid hn
  have hg := (h.lt g rfl).2
  clear h ha hn
  go_enter Try.func9, Try.ntmps9
  go_wp2
  go_loopw [3, 4] (fun av iv wr => LeastRel L w wr av iv) (fun _ iv _ => n - (intOf iv).toNat)
  case atStart => exact ⟨0, by omega, rfl, Below.refl _ _, Or.inl ⟨rfl, rfl⟩⟩
  case round =>
    obtain ⟨k, hk, rfl, hb, hrel⟩ := hrel
    have hkn : k ≤ n := by have := HN.out; omega
    have B := Lib.hid hb
    clear hb hk
    by_cases hlt : k < n
    · have hk0 := (B.out.cell (p := ⟨g, k * 2, none⟩) hg).trans (cellsL H.out HN.out k hlt 0 (by omega))
      generalize hx : L.getD k default = x at *
      have HX := Lib.hid hx
      clear hx
      have hk0' : wr.cell? ⟨g, k * 2, none⟩ = some (.int .i64 x.1) := hk0
      clear hk0
      rcases hrel with ⟨h0, rfl⟩ | ⟨a', rfl, hf⟩
      · subst h0
        go_wp2
        go_quiet (fail)
        go_wp2
        go_roundw
        case rel => exact ⟨1, by have := HN.out; omega, by go_num, below_drewN B.out _, Or.inr ⟨0, rfl, firstN_one _⟩⟩
        case measure => simp [intOf]; omega
      · have ha' : a' < k := hf.1
        have hz : decide ((a' : Int) < 0) = false := by simp
        have ha0 := (B.out.cell (p := ⟨g, a' * 2, none⟩) hg).trans (cellsL H.out HN.out a' (by omega) 0 (by omega))
        have HF := Lib.hid hf
        clear hf
        generalize hy : L.getD a' default = y at *
        have HY := Lib.hid hy
        clear hy
        have ha0' : wr.cell? ⟨g, a' * 2, none⟩ = some (.int .i64 y.1) := ha0
        clear ha0
        by_cases hxy : x.1 < y.1
        · go_wp2
          go_quiet (fail)
          go_wp2
          go_roundw
          case rel => exact ⟨k + 1, by have := HN.out; omega, by go_num, below_drewN B.out _, Or.inr ⟨k, rfl, firstN_next ordO HF.out (by rw [HX.out, HY.out]; simpa [ltO] using hxy)⟩⟩
          case measure => simp [intOf]; omega
        · go_wp2
          go_quiet (fail)
          go_wp2
          go_roundw
          case rel => exact ⟨k + 1, by have := HN.out; omega, by go_num, below_drewN B.out _, Or.inr ⟨a', rfl, firstN_same HF.out (by rw [HX.out, HY.out]; simpa [ltO] using hxy)⟩⟩
          case measure => simp [intOf]; omega
    · obtain rfl : k = n := by omega
      rcases hrel with ⟨h0, rfl⟩ | ⟨a', rfl, hf⟩
      · exfalso
        have := HA.out.1
        have := HN.out
        omega
      · have e : a' = a := First.uniq (lt := ltO) (L := L) (by rw [HN.out] at hf; exact hf) HA.out
        subst e
        clear hf
        go_wp2
        go_ret
        exact ⟨rfl, B.out⟩

set_option maxHeartbeats 400000 in
theorem least_none (ao : Option Addr) (cap : Nat) (w : World) :
    Calls Try.prog 9 #[.slice ao 0 cap] w fun e w' => e = .returned (.int .i64 (-1)) ∧ Below w.heap.size w w' := by
  go_enter Try.func9, Try.ntmps9
  go_wp2
  go_rounds 1
  go_ret
  exact ⟨rfl, Below.refl _ _⟩
end Go.Proofs.Ytlhmlejkfgejiaa
