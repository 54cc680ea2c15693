/-
  A grid: what Next, Add and the nil grid answer. Conditions: at most 100000 cells.
  A grid: what Split and Join answer and leave. Conditions: at most 4096 cells, or a wrong argument.
-/
import Derived.Test.YtieffijdhcbcfaaNzDa
import Derived.Test.YtieffijdhcbcfaaNzRb
import Derived.Test.YtieffijdhcbcfaaNzRc
namespace Go.Proofs.Ytieffijdhcbcfaa
open Go.RowKit Go.Proofs.Ytieffijdhcbcfaa.GrM


/-- Is there a next one? -/
def stepB (L : List Int) (n : Nat) (x d : Int) : Bool := hasB n x && (goodB d && decide (nxG L x.toNat d.toNat ≠ -1))
def stepN (L : List Int) (n : Nat) (x d : Int) : Int := if stepB L n x d = true then nxG L x.toNat d.toNat else 0
def stepO (L : List Int) (n : Nat) (x d : Int) : Int := if stepB L n x d = true then owG L x.toNat d.toNat else 0
theorem step_no {L : List Int} {n : Nat} {x d : Int} (h : stepB L n x d = false) : stepN L n x d = 0 ∧ stepO L n x d = 0 := by
  unfold stepN stepO; rw [h]; exact ⟨rfl, rfl⟩
theorem step_yes {L : List Int} {n a e : Nat} (ha : a < n) (he : e < 4) (h : nxG L a e ≠ -1) : stepB L n a e = true ∧ stepN L n a e = nxG L a e ∧ stepO L n a e = owG L a e := by
  have hb : stepB L n a e = true := by
    unfold stepB
    rw [hasB_t (by omega), goodB_t (by omega) (by omega), Int.toNat_natCast, Int.toNat_natCast, decide_eq_true h]; rfl
  refine ⟨hb, ?_, ?_⟩
  · unfold stepN; rw [if_pos hb, Int.toNat_natCast, Int.toNat_natCast]
  · unfold stepO; rw [if_pos hb, Int.toNat_natCast, Int.toNat_natCast]
theorem step_free {L : List Int} {n a e : Nat} (h : nxG L a e = -1) : stepB L n a e = false := by
  unfold stepB
  rw [Int.toNat_natCast, Int.toNat_natCast, h]; simp









end Go.Proofs.Ytieffijdhcbcfaa

namespace Go.Proofs.Ytieffijdhcbcfaa
open Go.RowKit Go.Proofs.Ytieffijdhcbcfaa.GrM

theorem turned_more {w w1 w2 : World} {p : Nat} {v v1 v2 : Value} (O1 : Out (FootG p v) w w1) (F1 : ∀ b, v1.ownBlock = some b → v.ownBlock = some b ∨ w.heap.size ≤ b) (O2 : Out (FootG p v1) w1 w2) (F2 : ∀ b, v2.ownBlock = some b → v1.ownBlock = some b ∨ w1.heap.size ≤ b) :
    Out (FootG p v) w w2 ∧ ∀ b, v2.ownBlock = some b → v.ownBlock = some b ∨ w.heap.size ≤ b := by
  refine ⟨O1.trans O2 (fun i hi e => ?_), fun b hb => ?_⟩
  · rcases e with e | e
    · exact Or.inl e
    · rcases F1 i e with h | h
      · exact Or.inr h
      · omega
  · rcases F2 b hb with h | h
    · exact F1 b h
    · exact Or.inr (Nat.le_trans O1.size h)








theorem contraryQ (d : Nat) (w : World) (hd : d < 4) : Calls Try.prog 36 #[.int .i64 d] w fun e w' => e = .returned (.int .i64 (opp d)) ∧ w' = w :=
  (contraryY d w hd).mono fun _ _ ⟨a, b⟩ => ⟨a, b.symm⟩



end Go.Proofs.Ytieffijdhcbcfaa
